"""What can be left out of a wood, and what can be put together in a question, without any change of the answers."""

from fullestrows.containment import contained, parting
from fullestrows.errors import BadStrike, Clash
from fullestrows.facts import by_shape, variables_of
from fullestrows.matching import has_match
from fullestrows.questions import Question, renumbered
from fullestrows.rules import book_of, closed
from fullestrows.sifting import Sieve, is_left, is_needless


def alike(wood, others, *, rules=()):
    """Whether each of two woods is contained in the other one."""
    return contained(wood, others, rules=rules) and contained(others, wood, rules=rules)


def unlike(wood, others, *, rules=()):
    """A side, a store, and an answer of the wood on this side in it that is none of the other wood, or None."""
    for side, one, other in ((0, wood, others), (1, others, wood)):
        shown = parting(one, other, rules=rules)
        if shown is not None:
            return side, shown[0], shown[1]
    return None


def without_pattern(question, node, pattern):
    """The question in which a pattern is left out of a node."""
    nodes = question.nodes
    parent, lot = nodes[node]
    nodes[node] = (parent, [other for other in lot if other != pattern])
    return Question(nodes)


def strikes_in(tree, question):
    """The strikes of a question, which has an index in its wood."""
    found = [("tree", tree)]
    found.extend([("node", tree, node) for node in range(1, len(question))])
    for node in range(len(question)):
        found.extend([("pattern", tree, node, pattern) for pattern in question.lot_at(node)
                      if is_left(question, node, pattern)])
    return found


def strikes(wood):
    """The list of all strikes of a wood."""
    return [strike for tree, question in enumerate(wood) for strike in strikes_in(tree, question)]


def left_of(question, strike):
    """The list of the questions that a strike leaves of one question."""
    if strike[0] == "tree":
        return []
    if strike[0] == "node":
        return [question.without(strike[2])]
    return [without_pattern(question, strike[2], strike[3])]


def wood_after(wood, strike):
    """The wood after one of its strikes."""
    tree = strike[1]
    return [*wood[:tree], *left_of(wood[tree], strike), *wood[tree + 1:]]


def struck(wood, strike):
    """The wood after a strike, which may be any value."""
    # True and False equal 1 and 0, but are no integers here.
    if strike not in strikes(wood) or any([isinstance(item, bool) for item in strike]):
        raise BadStrike(strike)
    return wood_after(wood, strike)


def needless(wood, *, rules=()):
    """The list of the strikes after which a wood has the same answers in all stores that keep the rules."""
    sieve = Sieve(wood, book_of(rules))
    return [strike for strike in strikes(wood) if is_needless(sieve, strike)]


def renumbered_strike(strike, tree):
    """A strike of another question, when the question with an index has been left out."""
    return (strike[0], strike[1] - 1, *strike[2:]) if strike[1] > tree else strike


def still_in_vain(vain, strike):
    """Which strikes are known not to be needless, of those that were not, when another strike has been made.

    If a question has been left out, no strike of the others is needless that was not: with this question, which
    tells nothing that the others do not tell, it would have been needless before.
    """
    if strike[0] != "tree":
        return {}
    return {renumbered_strike(other, strike[1]): True for other in vain if other[1] != strike[1]}


def next_needless(wood, start, vain, book):
    """The index of a needless strike and the strike, or None; those from a start on are looked at first.

    Those that are known to be in vain are left out; what is found to be in vain is put to them.
    """
    sieve = Sieve(wood, book)
    several = strikes(wood)
    for strike in [*several[start:], *several[:start]]:
        if strike not in vain:
            if is_needless(sieve, strike):
                return several.index(strike), strike
            vain[strike] = True
    return None


def thinned(wood, *, rules=()):
    """A wood no strike of which is needless, and the list of the needless strikes that lead to it."""
    book = book_of(rules)
    thin = list(wood)
    made = []
    vain = {}
    found = next_needless(thin, 0, vain, book)
    while found is not None:
        start, strike = found
        made.append(strike)
        thin = wood_after(thin, strike)
        vain = still_in_vain(vain, strike)
        # What stood behind the strike has not been looked at yet, so it comes first now.
        found = next_needless(thin, start, vain, book)
    return thin, made


def is_always_had(question, node, rules):
    """Whether a node can be had wherever its parent can be had."""
    parent = question.parent(node)
    try:
        patterns, terms = closed(question.lot_of(question.way(parent)), rules)
    except Clash:
        return True
    known = {name: terms[name] for name in variables_of(question.lot_at(parent))}
    return has_match(question.lot_at(node), by_shape(patterns), known)


def first_always_had(question, rules):
    """The first node that is always had, or None."""
    for node in range(1, len(question)):
        if is_always_had(question, node, rules):
            return node
    return None


def always_had(question, *, rules=()):
    """The ascending list of the nodes that can be had wherever their parents can be had."""
    return [node for node in range(1, len(question)) if is_always_had(question, node, rules)]


def put_into_parent(question, node):
    """The question in which a node is put into its parent."""
    parent = question.parent(node)
    nodes = [(parent if above == node else above, lot) for above, lot in question.nodes]
    nodes[parent] = (nodes[parent][0], [*nodes[parent][1], *nodes[node][1]])
    return Question(renumbered(nodes, [at for at in range(len(nodes)) if at != node]))


def tightened(question, *, rules=()):
    """The question without nodes that are always had: they are put into their parents, one after another."""
    left = question
    node = first_always_had(left, rules)
    while node is not None:
        left = put_into_parent(left, node)
        node = first_always_had(left, rules)
    return left
