"""Questions: trees of nodes with patterns; what a node asks for may be missing, but for the first node."""

from fullestrows.errors import BadNames, BadNode, BadNodes, BadPart, BadPattern, BadText, Loose, NothingNew
from fullestrows.facts import filled, is_pattern, is_variable, is_whole, pattern_text, read_pattern, variables_of


def is_list(value):
    """Whether a value can be passed where a list is wanted."""
    return isinstance(value, (list, tuple))


def is_node(value, index):
    """Whether a value is a parent and a list, such as the node with an index may have them."""
    if not isinstance(value, tuple) or len(value) != 2 or not is_list(value[1]):
        return False
    if index == 0:
        return value[0] is None
    return is_whole(value[0]) and 0 <= value[0] < index


def are_nodes(value):
    """Whether a value is a list of nodes, whatever their patterns are."""
    return is_list(value) and len(value) > 0 and all([is_node(node, at) for at, node in enumerate(value)])


def new_names(parents, lots):
    """For each node the ascending tuple of the variables that do not occur in its parent."""
    names = [variables_of(lot) for lot in lots]
    found = [tuple(names[0])]
    for parent, mine in list(zip(parents, names))[1:]:
        found.append(tuple([name for name in mine if name not in names[parent]]))
    return found


def children_of(parents):
    """For each node the ascending tuple of the nodes whose parent it is."""
    found = [[] for _ in parents]
    for node, parent in enumerate(parents):
        if parent is not None:
            found[parent].append(node)
    return [tuple(nodes) for nodes in found]


def renumbered(nodes, kept):
    """The nodes (parent, patterns) at some places, which are kept together with their parents, numbered anew."""
    numbers = {node: at for at, node in enumerate(kept)}
    return [(numbers.get(nodes[node][0]), nodes[node][1]) for node in kept]


def first_twice(names):
    """The first of some names that stands among them twice, or None."""
    ordered = sorted(names)
    twice = [name for name, other in zip(ordered, ordered[1:]) if name == other]
    return twice[0] if twice else None


def lot_text(lot):
    """The texts of the patterns of a node; only the first node can be without any."""
    return " ".join([pattern_text(pattern) for pattern in lot]) if lot else "-"


def nodes_told(text):
    """The nodes that the lines of a text tell, with None for what is not the text of a pattern."""
    nodes = []
    above = []
    for line in text.split("\n"):
        rest = line.lstrip(" ")
        depth = len(line) - len(rest)
        # All lines but the first one stand beneath the first one.
        if depth > len(above) or (nodes and not depth):
            raise BadText()
        lot = [] if rest == "-" else [read_pattern(word) for word in rest.split(" ")]
        nodes.append((above[depth - 1] if nodes else None, lot))
        above = [*above[:depth], len(nodes) - 1]
    return nodes


class Question:
    """A question with a list of nodes (parent, patterns); it never changes."""

    def __init__(self, nodes):
        if not are_nodes(nodes):
            raise BadNodes()
        for _, patterns in nodes:
            for value in patterns:
                if not is_pattern(value):
                    raise BadPattern(value)
        self._parents = tuple([parent for parent, _ in nodes])
        self._lots = tuple([tuple(sorted(set(patterns))) for _, patterns in nodes])
        self._new = tuple(new_names(self._parents, self._lots))
        self._children = tuple(children_of(self._parents))
        # A variable that is new in two nodes does not hang together.
        twice = first_twice([name for names in self._new for name in names])
        if twice is not None:
            raise Loose(twice)
        for index, names in enumerate(self._new):
            if index > 0 and not names:
                raise NothingNew(index)

    @property
    def nodes(self):
        """The list of the tuples (parent, patterns)."""
        return [(parent, list(lot)) for parent, lot in zip(self._parents, self._lots)]

    def __len__(self):
        return len(self._parents)

    def __eq__(self, other):
        return isinstance(other, Question) and self._parents == other._parents and self._lots == other._lots

    def is_number(self, value):
        """Whether any value is the number of a node."""
        return is_whole(value) and 0 <= value < len(self._parents)

    def new_variables(self, index):
        """The ascending list of the variables of a node that do not occur in its parent."""
        if not self.is_number(index):
            raise BadNode(index)
        return list(self._new[index])

    def lot_at(self, node):
        """The ascending tuple of the patterns of a node."""
        return self._lots[node]

    def parent(self, node):
        """The parent of a node, which is None for the first one."""
        return self._parents[node]

    def children(self, node):
        """The ascending tuple of the nodes whose parent a node is."""
        return self._children[node]

    def is_part(self, value):
        """Whether any value is a part: with each node but the first one, its parent, in an ascending tuple."""
        if not isinstance(value, tuple) or not all([self.is_number(node) for node in value]):
            return False
        return (value[:1] == (0,) and value == tuple(sorted(set(value)))
                and all([self._parents[node] in value for node in value[1:]]))

    def parts(self):
        """The ascending list of all parts."""
        found = [(0,)]
        for node, parent in enumerate(self._parents):
            found = [*found, *[(*part, node) for part in found if parent in part]]
        return sorted(found)

    def checked(self, part):
        """A part as it is; what is no part raises BadPart."""
        if not self.is_part(part):
            raise BadPart(part)
        return part

    def beneath(self, part):
        """The ascending list of the nodes that are not in a part, but whose parent is; it takes parts only."""
        return [node for node, parent in enumerate(self._parents) if parent in part and node not in part]

    def lot_of(self, nodes):
        """The ascending list of the patterns of some nodes, each once."""
        return sorted({pattern for node in nodes for pattern in self._lots[node]})

    def next_nodes(self, part):
        """The ascending list of the next nodes of a part."""
        return self.beneath(self.checked(part))

    def variables(self, part=None):
        """The ascending list of the variables of the nodes of a part, or of all nodes."""
        nodes = list(range(len(self._parents))) if part is None else self.checked(part)
        return sorted([name for node in nodes for name in self._new[node]])

    def patterns(self, part=None):
        """The ascending list of the patterns of the nodes of a part, or of all nodes, each once."""
        nodes = list(range(len(self._parents))) if part is None else self.checked(part)
        return self.lot_of(nodes)

    def part_with(self, variables):
        """The part whose variables are just those of a list, or None if there is none."""
        wanted = set(variables)
        part = (0, *[node for node, new in enumerate(self._new) if node > 0 and new[0] in wanted])
        names = [name for node in part for name in self._new[node]]
        if len(names) != len(wanted) or not all([name in wanted for name in names]):
            return None
        return part if all([self._parents[node] in part for node in part[1:]]) else None

    def least_part(self, variables):
        """The least part in which all variables of a list occur, or None if some occur nowhere."""
        wanted = set(variables)
        kept = {0: True}
        seen = 0
        for node, parent in reversed(list(enumerate(self._parents))):
            many = len([name for name in self._new[node] if name in wanted])
            seen += many
            if node > 0 and (many > 0 or node in kept):
                kept[node] = True
                kept[parent] = True
        return tuple(sorted(kept)) if seen == len(wanted) else None

    def way(self, node):
        """The list of the nodes on the way from a node up to the first one, both included."""
        nodes = [node]
        while nodes[-1] > 0:
            nodes.append(self._parents[nodes[-1]])
        return nodes

    def without(self, node):
        """The question in which a node other than the first one and all that is beneath it are left out."""
        return Question(renumbered(self.nodes, [at for at in range(len(self._parents)) if node not in self.way(at)]))

    def text(self):
        """The text of the question: a line for each node, all that is beneath a node directly behind it."""
        lines = []
        waiting = [(0, 0)]
        while waiting:
            node, depth = waiting.pop()
            lines.append(" " * depth + lot_text(self._lots[node]))
            waiting.extend([(child, depth + 1) for child in reversed(self.children(node))])
        return "\n".join(lines)

    @classmethod
    def read(cls, text):
        """The question with a text, its nodes numbered in the order of the lines."""
        nodes = nodes_told(text)
        try:
            question = cls(nodes)
        except (BadPattern, Loose, NothingNew):
            raise BadText() from None
        if question.text() != text:
            raise BadText()
        return question

    def renamed(self, names):
        """The question in which each variable that is a key of a dict is replaced by its value."""
        if not isinstance(names, dict):
            raise BadNames()
        if not all([is_variable(old) and is_variable(new) for old, new in names.items()]):
            raise BadNames()
        mine = self.variables()
        if len({names.get(name, name) for name in mine}) < len(mine):
            raise BadNames()
        return Question([(parent, [filled(pattern, names) for pattern in lot]) for parent, lot in self.nodes])
