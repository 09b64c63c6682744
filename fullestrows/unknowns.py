"""What is sure if not everything is known of a store: its lot has variables, and other facts may be in it, too."""

from fullestrows.cases import constants_in, leads_into, looks_like_way, way_into
from fullestrows.errors import Clash
from fullestrows.facts import by_shape
from fullestrows.forms import add_rows, as_maps, below_some
from fullestrows.matching import has_match
from fullestrows.rules import closed, keeps, store_of
from fullestrows.views import left_of_answers


def is_possible(store, lot, rules=()):
    """Whether a store keeps some rules and has all patterns of a lot for some constants."""
    return keeps(store, rules) and has_match(lot, store.groups(), {})


def some_store(lot, rules=()):
    """A store that is possible for a lot and some rules."""
    patterns, _ = closed(lot, rules)
    return store_of(patterns, constants_in([], rules))[0]


def end_of_lot(lot, rules):
    """The patterns of a closed lot, or None if no store is possible."""
    try:
        return closed(lot, rules)[0]
    except Clash:
        return None


def is_sure(known, wood, lot, *, rules=()):
    """Whether in each possible store some answer of a wood is above a map."""
    patterns = end_of_lot(lot, rules)
    return patterns is None or way_into(patterns, wood, known) is not None


def greatest(told):
    """The maps, as told_by in forms.py gives them, without those below others."""
    found = {}
    for names, rows in told.items():
        wider = {others: more for others, more in told.items() if len(others) > len(names)}
        below = below_some(names, wider)
        add_rows(found, names, [row for row in rows if row not in below])
    return found


def sure_maps(wood, lot, *, rules=()):
    """The ascending list of the sure maps that no other sure map is above."""
    patterns, _ = closed(lot, rules)
    shapes = by_shape(patterns)
    told = {}
    for question in wood:
        for pairs in left_of_answers(question, shapes, question.variables()):
            names = tuple([name for name, _ in pairs])
            add_rows(told, names, [tuple([term for _, term in pairs])])
    return as_maps(greatest(told))


def why_sure(known, wood, lot, *, rules=()):
    """A tuple (tree, part, found) that shows that a map is sure, or None."""
    return way_into(closed(lot, rules)[0], wood, known)


def is_why(value, known, wood, lot, *, rules=()):
    """Whether any value is a tuple that shows that a map is sure; there is none without a possible store."""
    patterns = end_of_lot(lot, rules)
    if patterns is None or not isinstance(value, tuple):
        return False
    return looks_like_way(value, wood) and leads_into(value, {pattern: True for pattern in patterns}, wood, known)


def against(known, wood, lot, *, rules=()):
    """A possible store in which no answer of a wood is above a map, or None if the map is sure."""
    patterns = end_of_lot(lot, rules)
    if patterns is None or way_into(patterns, wood, known) is not None:
        return None
    # An unknown constant must not become one that is asked for.
    return store_of(patterns, [*constants_in(wood, rules), *[known[name] for name in known]])[0]
