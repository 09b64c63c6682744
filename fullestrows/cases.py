"""What the decisions for all stores have in common: the parts they go through, and the stores that they show."""

from fullestrows.answers import is_answer
from fullestrows.errors import Broken, NotAnAnswer
from fullestrows.facts import by_shape, is_free, is_whole
from fullestrows.matching import first_match
from fullestrows.rules import Rule, broken, store_of


def places_in(wood):
    """The ascending list of the tuples (tree, part) of a wood."""
    return [(tree, part) for tree, question in enumerate(wood) for part in question.parts()]


def has_just(value, names):
    """Whether any value is a dict with just some keys."""
    return isinstance(value, dict) and len(value) == len(names) and all([name in value for name in names])


def has_places(value, wood):
    """Whether any value is a dict whose keys are just the tuples (tree, part) of a wood."""
    if not isinstance(value, dict) or len(value) != sum([len(question.all_parts()) for question in wood]):
        return False
    for tree, question in enumerate(wood):
        for part in question.all_parts():
            if (tree, part) not in value:
                return False
    # True equals 1, so a key with it would be found, too.
    return not any([number is True or number is False for tree, part in value for number in (tree, *part)])


def way_into(lot, wood, known):
    """A tuple (tree, part, found) of a part of a wood and a dict above a given one that leads it to a lot, or None.

    No part is needed that is greater than the least one with the keys of the given dict.
    """
    shapes = by_shape(lot)
    for tree, question in enumerate(wood):
        part = question.least_part(list(known))
        found = None if part is None else first_match(question.lot_of(part), shapes, known)
        if found is not None:
            return tree, part, found
    return None


def looks_like_way(value, wood):
    """Whether any tuple is one of a part of a wood and a dict from its variables to strings.

    Each variable of a part is in its patterns, so a dict to what is no string leads them nowhere.
    """
    if len(value) != 3 or not is_whole(value[0]) or not 0 <= value[0] < len(wood):
        return False
    tree, part, found = value
    if not wood[tree].is_part(part) or not isinstance(found, dict):
        return False
    names = wood[tree].place_of(part).owned
    return len(found) == len(names) and all([isinstance(found.get(name), str) for name in names])


def leads_into(value, present, wood, known):
    """Whether a tuple that looks like a way has a dict above a given one that leads its part to what is present."""
    tree, part, found = value
    for name in known:
        if found.get(name) != known[name]:
            return False
    for pattern in wood[tree].place_of(part).asks:
        if tuple([found.get(term, term) for term in pattern]) not in present:
            return False
    return True


def constants_in(wood, rules):
    """The constants of a wood and of rules, which must not be taken for unknown ones; some may come twice."""
    found = [term for question in wood for term in question.constants()]
    for rule in rules:
        if isinstance(rule, Rule):
            found.extend([term for pattern in (*rule.body, rule.head) for term in pattern[1:] if not is_free(term)])
    return found


def shown_store(patterns, known, taken):
    """The store of a lot in which each variable is a constant of its own, and a dict to its terms filled likewise."""
    store, names = store_of(patterns, taken)
    return store, {name: names.get(term, term) for name, term in known.items()}


def must_keep(store, rules):
    """Raises Broken unless a store keeps some rules."""
    found = broken(store, rules)
    if found is not None:
        raise Broken(found[0], found[1])


def must_answer(wood, store, known):
    """Raises NotAnAnswer unless a map is an answer of a wood in a store."""
    if not is_answer(wood, store, known):
        raise NotAnAnswer(dict(known))


def must_fit(wood, store, known, rules):
    """Raises Broken unless a store keeps some rules, and then NotAnAnswer unless a map is an answer there."""
    must_keep(store, rules)
    must_answer(wood, store, known)
