"""Questions: trees of nodes with patterns; what a node asks for may be missing, but for the first node."""

from fullestrows.errors import BadNames, BadNode, BadNodes, BadPart, BadPattern, BadText, Loose, NothingNew
from fullestrows.facts import filled, is_pattern, is_variable, is_whole, pattern_text, read_pattern, variables_of
from fullestrows.leads import Lead

# So much is kept at most of what has been found out about a question for some variables and for some rules.
MOST_KEPT = 200
MOST_RULES_KEPT = 8


def is_list(value):
    """Whether a value can be passed where a list is wanted."""
    return isinstance(value, (list, tuple))


def is_node(value, index):
    """Whether a value is a parent and a list, such as the node with an index may have them."""
    if not isinstance(value, tuple) or len(value) != 2 or not is_list(value[1]):
        return False
    if index == 0:
        return value[0] is None
    return is_whole(value[0]) and 0 <= value[0] < index


def are_nodes(value):
    """Whether a value is a list of nodes, whatever their patterns are."""
    return is_list(value) and len(value) > 0 and all([is_node(node, at) for at, node in enumerate(value)])


def new_names(parents, names):
    """For each node the ascending tuple of the variables, out of those of each node, that are not in its parent."""
    found = [tuple(names[0])]
    for parent, mine in list(zip(parents, names))[1:]:
        found.append(tuple([name for name in mine if name not in names[parent]]))
    return found


def children_of(parents):
    """For each node the ascending tuple of the nodes whose parent it is."""
    found = [[] for _ in parents]
    for node, parent in enumerate(parents):
        if parent is not None:
            found[parent].append(node)
    return [tuple(nodes) for nodes in found]


def renumbered(nodes, kept):
    """The nodes (parent, patterns) at some places, which are kept together with their parents, numbered anew."""
    numbers = {node: at for at, node in enumerate(kept)}
    return [(numbers.get(nodes[node][0]), nodes[node][1]) for node in kept]


def first_twice(names):
    """The first of some names, of which not all differ, that stands among them twice."""
    ordered = sorted(names)
    return [name for name, other in zip(ordered, ordered[1:]) if name == other][0]


def lot_text(lot):
    """The texts of the patterns of a node; only the first node can be without any."""
    return " ".join([pattern_text(pattern) for pattern in lot]) if lot else "-"


def nodes_told(text):
    """The nodes that the lines of a text tell, with None for what is not the text of a pattern."""
    nodes = []
    above = []
    for line in text.split("\n"):
        rest = line.lstrip(" ")
        depth = len(line) - len(rest)
        # All lines but the first one stand beneath the first one.
        if depth > len(above) or (nodes and not depth):
            raise BadText()
        lot = [] if rest == "-" else [read_pattern(word) for word in rest.split(" ")]
        nodes.append((above[depth - 1] if nodes else None, lot))
        above = [*above[:depth], len(nodes) - 1]
    return nodes


class Place:
    """A part of a question with its variables and its patterns, both ascending, and its next nodes once asked for."""

    def __init__(self, part, owned, lot):
        self.part = part
        self.owned = owned
        self.asks = lot
        self.nexts = None


class Aim:
    """The least part of a question that has some variables, and its lead for dicts that know them."""

    def __init__(self, part, lead):
        self.part = part
        self.lead = lead


class Question:
    """A question with a list of nodes (parent, patterns); it never changes.

    What has been found out about its parts is kept, as the decisions for all stores ask for it again and again.
    """

    def __init__(self, nodes):
        if not are_nodes(nodes):
            raise BadNodes()
        for _, patterns in nodes:
            for value in patterns:
                if not is_pattern(value):
                    raise BadPattern(value)
        self._parents = tuple([parent for parent, _ in nodes])
        self._lots = tuple([tuple(sorted(set(patterns))) for _, patterns in nodes])
        self._names = tuple([variables_of(lot) for lot in self._lots])
        self._new = tuple(new_names(self._parents, self._names))
        self._children = tuple(children_of(self._parents))
        self._home = {name: node for node, names in enumerate(self._new) for name in names}
        # A variable that is new in two nodes does not hang together.
        if len(self._home) < sum([len(names) for names in self._new]):
            raise Loose(first_twice([name for names in self._new for name in names]))
        for index, names in enumerate(self._new):
            if index > 0 and not names:
                raise NothingNew(index)
        self._parts = None
        self._constants = None
        self._places = {}
        self._having = {}
        self._leads = {}
        self._aims = {}
        self._courses = {}

    @property
    def nodes(self):
        """The list of the tuples (parent, patterns)."""
        return [(parent, list(lot)) for parent, lot in zip(self._parents, self._lots)]

    def __len__(self):
        return len(self._parents)

    def __eq__(self, other):
        return isinstance(other, Question) and self._parents == other._parents and self._lots == other._lots

    def is_number(self, value):
        """Whether any value is the number of a node."""
        return is_whole(value) and 0 <= value < len(self._parents)

    def new_variables(self, index):
        """The ascending list of the variables of a node that do not occur in its parent."""
        if not self.is_number(index):
            raise BadNode(index)
        return list(self._new[index])

    def constants(self):
        """The list of the constants in the patterns, each once; the package itself only looks at it."""
        if self._constants is None:
            terms = [term for lot in self._lots for pattern in lot for term in pattern[1:] if term[0] != "?"]
            self._constants = list({term: True for term in terms})
        return self._constants

    def names_at(self, node):
        """The ascending list of the variables of a node; the package itself only looks at it."""
        return self._names[node]

    def new_at(self, node):
        """The ascending tuple of the new variables of a node."""
        return self._new[node]

    def all_lots(self):
        """The tuple of the ascending tuples of the patterns of the nodes."""
        return self._lots

    def lot_at(self, node):
        """The ascending tuple of the patterns of a node."""
        return self._lots[node]

    def parent(self, node):
        """The parent of a node, which is None for the first one."""
        return self._parents[node]

    def around(self, node):
        """The nodes right beneath a node and its parent, if it has one."""
        return self._children[node] if node == 0 else (self._parents[node], *self._children[node])

    def children(self, node):
        """The ascending tuple of the nodes whose parent a node is."""
        return self._children[node]

    def all_parts(self):
        """A dict whose keys are all parts, in ascending order; the package itself only looks at it."""
        if self._parts is not None:
            return self._parts
        found = [(0,)]
        for node, parent in enumerate(self._parents):
            found = [*found, *[(*part, node) for part in found if parent in part]]
        parts = {part: True for part in sorted(found)}
        self._parts = parts if len(parts) <= MOST_KEPT else None
        return parts

    def is_part(self, value):
        """Whether any value is a part: with each node but the first one, its parent, in an ascending tuple."""
        if not isinstance(value, tuple) or value[:1] != (0,):
            return False
        # True and False equal 1 and 0, but are no integers here.
        if [node for node in value if not isinstance(node, int) or node is True or node is False]:
            return False
        for node, other in zip(value, value[1:]):
            if not node < other < len(self._parents) or self._parents[other] not in value:
                return False
        return True

    def parts(self):
        """The ascending list of all parts."""
        return list(self.all_parts())

    def checked(self, part):
        """A part as it is; what is no part raises BadPart."""
        if not self.is_part(part):
            raise BadPart(part)
        return part

    def beneath(self, part):
        """The ascending list of the nodes that are not in a part, but whose parent is; it takes parts only."""
        return [node for node, parent in enumerate(self._parents) if parent in part and node not in part]

    def lot_of(self, nodes):
        """The ascending list of the patterns of some nodes, each once."""
        return sorted({pattern for node in nodes for pattern in self._lots[node]})

    def next_nodes(self, part):
        """The ascending list of the next nodes of a part."""
        return self.beneath(self.checked(part))

    def variables(self, part=None):
        """The ascending list of the variables of the nodes of a part, or of all nodes."""
        nodes = list(range(len(self._parents))) if part is None else self.checked(part)
        return sorted([name for node in nodes for name in self._new[node]])

    def patterns(self, part=None):
        """The ascending list of the patterns of the nodes of a part, or of all nodes, each once."""
        nodes = list(range(len(self._parents))) if part is None else self.checked(part)
        return self.lot_of(nodes)

    def part_with(self, variables):
        """The part whose variables are just those of a list, or None if there is none."""
        wanted = set(variables)
        part = (0, *[node for node, new in enumerate(self._new) if node > 0 and new[0] in wanted])
        names = [name for node in part for name in self._new[node]]
        if len(names) != len(wanted) or not all([name in wanted for name in names]):
            return None
        return part if all([self._parents[node] in part for node in part[1:]]) else None

    def least_part(self, variables):
        """The least part in which all variables of a list occur, or None if some occur nowhere."""
        kept = {0: True}
        for name in variables:
            if name not in self._home:
                return None
            node = self._home[name]
            while node not in kept:
                kept[node] = True
                node = self._parents[node]
        return tuple(sorted(kept))

    def lead_at(self, node):
        """The lead of a node, for dicts that know its variables but the new ones."""
        if node not in self._leads:
            known = [name for name in self._names[node] if name not in self._new[node]]
            self._leads[node] = Lead(self._lots[node], known)
        return self._leads[node]

    def place_of(self, part):
        """The place of a part."""
        if part not in self._places:
            names = tuple(sorted([name for node in part for name in self._new[node]]))
            self._places[part] = Place(part, names, tuple(self.lot_of(part)))
        return self._places[part]

    def leads_beneath(self, part):
        """A tuple (node, lead) for each of the next nodes of a part; the package itself only looks at their list."""
        place = self.place_of(part)
        if place.nexts is None:
            place.nexts = [(node, self.lead_at(node)) for node in self.beneath(part)]
        return place.nexts

    def place_having(self, names):
        """The place whose variables are just those of an ascending tuple, or None if there is none."""
        if names not in self._having:
            part = self.part_with(names)
            self._having = {} if len(self._having) >= MOST_KEPT else self._having
            self._having[names] = None if part is None else self.place_of(part)
        return self._having[names]

    def aim_at(self, names):
        """The aim for the variables of a tuple, or None if some occur nowhere."""
        if names not in self._aims:
            part = self.least_part(names)
            self._aims = {} if len(self._aims) >= MOST_KEPT else self._aims
            self._aims[names] = None if part is None else Aim(part, self.lead_to(part, names))
        return self._aims[names]

    def lead_to(self, part, names):
        """The lead of a part for dicts that know some of its variables."""
        lot = list({pattern: True for node in part for pattern in self._lots[node]})
        whole = len(names) == len([name for node in part for name in self._new[node]])
        return Lead(lot, None if whole else names)

    def course_by(self, told):
        """The course (see grounds.py) that is kept for the rules that a tuple tells, or None."""
        return self._courses.get(told)

    def keep_course(self, told, course):
        """Keeps a course for the rules that a tuple tells."""
        self._courses = {} if len(self._courses) >= MOST_RULES_KEPT else self._courses
        self._courses[told] = course

    def way(self, node):
        """The list of the nodes on the way from a node up to the first one, both included."""
        nodes = [node]
        while nodes[-1] > 0:
            nodes.append(self._parents[nodes[-1]])
        return nodes

    def without(self, node):
        """The question in which a node other than the first one and all that is beneath it are left out."""
        return Question(renumbered(self.nodes, [at for at in range(len(self._parents)) if node not in self.way(at)]))

    def text(self):
        """The text of the question: a line for each node, all that is beneath a node directly behind it."""
        lines = []
        waiting = [(0, 0)]
        while waiting:
            node, depth = waiting.pop()
            lines.append(" " * depth + lot_text(self._lots[node]))
            waiting.extend([(child, depth + 1) for child in reversed(self.children(node))])
        return "\n".join(lines)

    @classmethod
    def read(cls, text):
        """The question with a text, its nodes numbered in the order of the lines."""
        nodes = nodes_told(text)
        try:
            question = cls(nodes)
        except (BadPattern, Loose, NothingNew):
            raise BadText() from None
        if question.text() != text:
            raise BadText()
        return question

    def renamed(self, names):
        """The question in which each variable that is a key of a dict is replaced by its value."""
        if not isinstance(names, dict):
            raise BadNames()
        if not all([is_variable(old) and is_variable(new) for old, new in names.items()]):
            raise BadNames()
        mine = self.variables()
        if len({names.get(name, name) for name in mine}) < len(mine):
            raise BadNames()
        return Question([(parent, [filled(pattern, names) for pattern in lot]) for parent, lot in self.nodes])
