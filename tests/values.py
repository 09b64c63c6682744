"""Values and slow ways of reckoning that several tests share."""

import itertools
import random

# One value of each kind that "any value" may be, and such as are nearly right.
ANY_VALUES = [
    None, True, False, 0, 1, -1, 2, "", "a", "?a", "a b", [], ["a"], [["a"]], (), ("?a",), ("a", 1), ("a", None),
    ("a", True), ("a", ["b"]), ("a", ("b",)), (("a",),), ("a", "b", "c", "d", "e"), {}, {"a": "b"}, {"?x": "a"},
]


def given(pattern, known):
    """The pattern filled by a dict, in the plainest way."""
    return tuple(known[term] if term in known else term for term in pattern)


def names_in(lot):
    """The variables of a lot, in ascending order."""
    return sorted({term for pattern in lot for term in pattern[1:] if term[0] == "?"})


def slow_maps(lot, facts, known=None):
    """All dicts above known that lead a lot to facts, in ascending order, by trying everything."""
    start = known or {}
    free = [name for name in names_in(lot) if name not in start]
    terms = sorted({term for fact in facts for term in fact[1:]})
    found = []
    for chosen in itertools.product(terms, repeat=len(free)):
        whole = {**start, **dict(zip(free, chosen))}
        if all(given(pattern, whole) in facts for pattern in lot):
            found.append(sorted(whole.items()))
    return [dict(pairs) for pairs in sorted(found)]


def some_lot(dice, size, terms, tables=("a", "b")):
    """A lot of some patterns with the given terms; equal dice give equal lots."""
    return [(dice.choice(tables), *[dice.choice(terms) for _ in range(dice.randint(0, 3))]) for _ in range(size)]


def dice(seed):
    """A row of numbers that is the same in each run."""
    return random.Random(seed)
