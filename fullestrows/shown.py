"""Whether each answer of one wood is part of an answer of another one, if only some variables are shown."""

from fullestrows.answers import fullest, has_above, is_answer
from fullestrows.cases import constants_in, has_places, is_way_into, places_in, shown_store, way_into
from fullestrows.errors import BadNode, Clash
from fullestrows.matching import only_keys
from fullestrows.rules import closed, keeps
from fullestrows.views import left_of_answers


def shown_answers(wood, store, shown):
    """The ascending list of what is left of the answers of a wood in a store if only some variables are shown."""
    left = sorted({pairs for question in wood for pairs in left_of_answers(question, store.groups(), shown)})
    return [dict(pairs) for pairs in left]


class Ground:
    """A part of a question after closing: its lot and the terms of its shown variables; clash tells of a Clash."""

    def __init__(self, question, part, shown, rules):
        self.clash = False
        self.present = []
        self.terms = {}
        try:
            self.present, self.terms = closed(question.lot_of(part), rules)
        except Clash:
            self.clash = True
        self.visible = only_keys(self.terms, shown)


def way_in(ground, others):
    """A way for a part of a question into another wood, or None."""
    if ground.clash:
        return ("clash",)
    found = way_into(ground.present, others, ground.visible)
    return None if found is None else ("way", *found)


def first_unmet(wood, others, shown, rules):
    """The first tuple (question, ground) of a part for which there is no way, or None."""
    for question in wood:
        # A question that both woods have is part of itself.
        if question not in others:
            for part in question.parts():
                ground = Ground(question, part, shown, rules)
                if way_in(ground, others) is None:
                    return question, ground
    return None


def part_of(wood, others, shown, *, rules=()):
    """Whether a wood is part of another one for some rules and shown variables."""
    return first_unmet(wood, others, shown, rules) is None


def ways(wood, others, shown, *, rules=()):
    """For each tuple (tree, part) of a wood a way into another one, or None if the wood is not part of it."""
    found = {}
    for tree, part in places_in(wood):
        way = way_in(Ground(wood[tree], part, shown, rules), others)
        if way is None:
            return None
        found[(tree, part)] = way
    return found


def is_way(value, ground, others):
    """Whether any value is a way for a part of a question into another wood."""
    if ground.clash:
        return value == ("clash",)
    return (isinstance(value, tuple) and value[:1] == ("way",)
            and is_way_into(value[1:], ground.present, others, ground.visible))


def are_ways(value, wood, others, shown, *, rules=()):
    """Whether any value is a dict of ways that show that a wood is part of another one."""
    places = places_in(wood)
    if not has_places(value, places):
        return False
    for tree, part in places:
        if not is_way(value[(tree, part)], Ground(wood[tree], part, shown, rules), others):
            return False
    return True


def unmet(wood, others, shown, *, rules=()):
    """A store that keeps the rules and an answer of a wood whose shown part is in none of another one, or None."""
    found = first_unmet(wood, others, shown, rules)
    if found is None:
        return None
    question, ground = found
    store, known = shown_store(ground.present, ground.terms, constants_in([*wood, *others], rules))
    return store, fullest(question, store, known)


def is_unmet(store, answer, wood, others, shown, *, rules=()):
    """Whether a store keeps the rules, and a map is an answer there whose shown part is in none of another wood."""
    return (keeps(store, rules) and is_answer(wood, store, answer)
            and not has_above(others, store, only_keys(answer, shown)))


def without_node(question, node):
    """The question in which a node and all that is beneath it are left out."""
    if not question.is_number(node) or node == 0:
        raise BadNode(node)
    return question.without(node)


def needless_nodes(wood, shown, *, rules=()):
    """The ascending list of the tuples (tree, node) without which the wood has all that it shows."""
    found = []
    for tree, question in enumerate(wood):
        for node in range(1, len(question)):
            less = [*wood[:tree], question.without(node), *wood[tree + 1:]]
            if part_of(wood, less, shown, rules=rules):
                found.append((tree, node))
    return found
