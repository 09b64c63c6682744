"""What the decisions for all stores have in common: the parts they go through, and the stores that they show."""

from fullestrows.answers import is_answer
from fullestrows.errors import Broken, NotAnAnswer
from fullestrows.facts import is_free, is_whole
from fullestrows.rules import Rule, broken, store_of


def places_in(wood):
    """The ascending list of the tuples (tree, part) of a wood."""
    return [(tree, part) for tree, question in enumerate(wood) for part in question.parts()]


def is_place(value):
    """Whether any value is a tuple of an integer and a tuple of integers; True and False are none."""
    return (isinstance(value, tuple) and len(value) == 2 and is_whole(value[0])
            and isinstance(value[1], tuple) and all([is_whole(node) for node in value[1]]))


def has_keys(value, places):
    """Whether any value is a dict whose keys are just some tuples (tree, part)."""
    if not isinstance(value, dict) or len(value) != len(places):
        return False
    # True equals 1, so such a key would be found, too.
    return all([is_place(key) for key in value]) and all([place in value for place in places])


def constants_in(wood, rules):
    """The constants of a wood and of rules, which must not be taken for unknown ones."""
    lots = [question.patterns() for question in wood]
    lots = [*lots, *[[*rule.body, rule.head] for rule in rules if isinstance(rule, Rule)]]
    return sorted({term for lot in lots for pattern in lot for term in pattern[1:] if not is_free(term)})


def shown_store(patterns, known, taken):
    """The store of a lot in which each variable is a constant of its own, and a dict to its terms filled likewise."""
    store, names = store_of(patterns, taken)
    return store, {name: names.get(term, term) for name, term in known.items()}


def must_keep(store, rules):
    """Raises Broken unless a store keeps some rules."""
    found = broken(store, rules)
    if found is not None:
        raise Broken(found[0], found[1])


def must_answer(wood, store, known):
    """Raises NotAnAnswer unless a map is an answer of a wood in a store."""
    if not is_answer(wood, store, known):
        raise NotAnAnswer(dict(known))
