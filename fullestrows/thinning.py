"""What can be left out of a wood, and what can be put together in a question, without any change of the answers."""

from fullestrows.containment import contained, parting
from fullestrows.errors import BadStrike, Clash, Loose, NothingNew
from fullestrows.facts import by_shape, variables_of
from fullestrows.matching import has_match
from fullestrows.questions import Question, renumbered
from fullestrows.rules import closed


def alike(wood, others, *, rules=()):
    """Whether each of two woods is contained in the other one."""
    return contained(wood, others, rules=rules) and contained(others, wood, rules=rules)


def unlike(wood, others, *, rules=()):
    """A side, a store, and an answer of the wood on this side in it that is none of the other wood, or None."""
    for side, one, other in ((0, wood, others), (1, others, wood)):
        shown = parting(one, other, rules=rules)
        if shown is not None:
            return side, shown[0], shown[1]
    return None


def without_pattern(question, node, pattern):
    """The question in which a pattern is left out of a node, or None if what is left is no question."""
    nodes = question.nodes
    parent, lot = nodes[node]
    nodes[node] = (parent, [other for other in lot if other != pattern])
    try:
        return Question(nodes)
    except (Loose, NothingNew):
        return None


def strikes_in(tree, question):
    """The strikes of a question, which has an index in its wood."""
    found = [("tree", tree)]
    found.extend([("node", tree, node) for node in range(1, len(question))])
    for node in range(len(question)):
        found.extend([("pattern", tree, node, pattern) for pattern in question.lot_at(node)
                      if without_pattern(question, node, pattern) is not None])
    return found


def strikes(wood):
    """The list of all strikes of a wood."""
    return [strike for tree, question in enumerate(wood) for strike in strikes_in(tree, question)]


def left_of(question, strike):
    """The list of the questions that a strike leaves of one question."""
    if strike[0] == "tree":
        return []
    if strike[0] == "node":
        return [question.without(strike[2])]
    return [without_pattern(question, strike[2], strike[3])]


def wood_after(wood, strike):
    """The wood after one of its strikes."""
    tree = strike[1]
    return [*wood[:tree], *left_of(wood[tree], strike), *wood[tree + 1:]]


def struck(wood, strike):
    """The wood after a strike, which may be any value."""
    # True and False equal 1 and 0, but are no integers here.
    if strike not in strikes(wood) or any([isinstance(item, bool) for item in strike]):
        raise BadStrike(strike)
    return wood_after(wood, strike)


def is_needless(wood, strike, rules):
    """Whether a wood and the wood after a strike are alike."""
    return alike(wood, wood_after(wood, strike), rules=rules)


def needless(wood, *, rules=()):
    """The list of the strikes after which a wood has the same answers in all stores that keep the rules."""
    return [strike for strike in strikes(wood) if is_needless(wood, strike, rules)]


def next_needless(wood, start, rules):
    """The index of a needless strike and the strike, or None; those from a start on are looked at first."""
    several = strikes(wood)
    for strike in [*several[start:], *several[:start]]:
        if is_needless(wood, strike, rules):
            return several.index(strike), strike
    return None


def thinned(wood, *, rules=()):
    """A wood no strike of which is needless, and the list of the needless strikes that lead to it."""
    thin = list(wood)
    made = []
    found = next_needless(thin, 0, rules)
    while found is not None:
        start, strike = found
        made.append(strike)
        thin = wood_after(thin, strike)
        # What stood behind the strike has not been looked at yet, so it comes first now.
        found = next_needless(thin, start, rules)
    return thin, made


def is_always_had(question, node, rules):
    """Whether a node can be had wherever its parent can be had."""
    parent = question.parent(node)
    try:
        patterns, terms = closed(question.lot_of(question.way(parent)), rules)
    except Clash:
        return True
    known = {name: terms[name] for name in variables_of(question.lot_at(parent))}
    return has_match(question.lot_at(node), by_shape(patterns), known)


def first_always_had(question, rules):
    """The first node that is always had, or None."""
    for node in range(1, len(question)):
        if is_always_had(question, node, rules):
            return node
    return None


def always_had(question, *, rules=()):
    """The ascending list of the nodes that can be had wherever their parents can be had."""
    return [node for node in range(1, len(question)) if is_always_had(question, node, rules)]


def put_into_parent(question, node):
    """The question in which a node is put into its parent."""
    parent = question.parent(node)
    nodes = [(parent if above == node else above, lot) for above, lot in question.nodes]
    nodes[parent] = (nodes[parent][0], [*nodes[parent][1], *nodes[node][1]])
    return Question(renumbered(nodes, [at for at in range(len(nodes)) if at != node]))


def tightened(question, *, rules=()):
    """The question without nodes that are always had: they are put into their parents, one after another."""
    left = question
    node = first_always_had(left, rules)
    while node is not None:
        left = put_into_parent(left, node)
        node = first_always_had(left, rules)
    return left
