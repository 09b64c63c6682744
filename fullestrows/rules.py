"""Keys and implications: which stores keep them, and what follows from a lot by them."""

from fullestrows.errors import BadKey, BadPattern, BadRule, Clash
from fullestrows.facts import (
    MOST_TERMS, Store, by_shape, filled, is_free, is_name, is_pattern, is_whole, variables_of,
)
from fullestrows.joins import ways_to
from fullestrows.rows import FEW_ROWS, small_rows
from fullestrows.search import first_solution
from fullestrows.tables import picked, ready, tables_for


def are_places(places, size):
    """Whether a value is a list of different places below a size."""
    return (isinstance(places, (list, tuple))
            and all([is_whole(place) and 0 <= place < size for place in places])
            and len(set(places)) == len(places))


class Key:
    """In the facts of a table with a size, the terms at some places settle the others."""

    def __init__(self, table, size, places):
        if not is_name(table) or not is_whole(size) or not 1 <= size <= MOST_TERMS:
            raise BadKey()
        if not are_places(places, size):
            raise BadKey()
        self._table = table
        self._size = size
        self._places = tuple(sorted(places))

    @property
    def table(self):
        """The table of the key."""
        return self._table

    @property
    def size(self):
        """The number of terms of the facts that the key is for."""
        return self._size

    @property
    def places(self):
        """The ascending tuple of the places that settle the others."""
        return self._places

    def __eq__(self, other):
        return (isinstance(other, Key) and self._table == other._table
                and self._size == other._size and self._places == other._places)


class Rule:
    """An implication: for each map that fits the body, the filled head is a fact, too."""

    def __init__(self, body, head):
        for value in [*body, head]:
            if not is_pattern(value):
                raise BadPattern(value)
        held = variables_of(body)
        if not all([name in held for name in variables_of([head])]):
            raise BadRule()
        self._body = tuple(body)
        self._head = head

    @property
    def body(self):
        """The tuple of the patterns of the body, in their order."""
        return self._body

    @property
    def head(self):
        """The head, which is a pattern."""
        return self._head

    def __eq__(self, other):
        return isinstance(other, Rule) and self._body == other._body and self._head == other._head


def first_pair(groups, key):
    """The first pair of different patterns that a key does not allow beside each other, or None.

    The patterns are in groups by shape, in ascending order.
    """
    patterns = groups.get((key.table, 1 + key.size), [])
    if len(patterns) < 2:
        return None
    spots = [1 + place for place in key.places]
    alike = {}
    for pattern in patterns:
        alike.setdefault(picked(pattern, spots), []).append(pattern)
    if len(alike) == len(patterns):
        return None
    return min([(group[0], group[1]) for group in alike.values() if len(group) > 1])


def head_at(rule, places):
    """For each item of the head of a rule, a tuple of it and its place in the rows, or -1."""
    return [(term, places.get(term, -1)) for term in rule.head]


def lacking(rule, groups, held):
    """The places and rows (see rows.py) with which the body is there, but not the head, or None for too many."""
    small = small_rows(rule.body, groups, {}, FEW_ROWS)
    if small is None or not small[1]:
        return small
    places, rows = small
    spots = head_at(rule, places)
    return places, [row for row in rows
                    if tuple([term if at < 0 else row[at] for term, at in spots]) not in held]


def missing(rule, groups, held):
    """The table (see tables.py) of the variables of a head for which the body is there, but not the head."""
    names = tuple(variables_of([rule.head]))
    ways = ways_to(tables_for(rule.body, groups, {}), names)
    return names, [row for row in ways if filled(rule.head, dict(zip(names, row))) not in held]


def first_breach(rule, groups, held):
    """The body of an implication, filled by the first map that breaks it, or None."""
    small = lacking(rule, groups, held)
    if small is None:
        tables = ready([*tables_for(rule.body, groups, {}), missing(rule, groups, held)])
        found = None if tables is None else first_solution(tables)
    elif small[1]:
        places, rows = small
        names = sorted(places)
        spots = [places[name] for name in names]
        found = dict(zip(names, min([picked(row, spots) for row in rows])))
    else:
        found = None
    return None if found is None else [filled(pattern, found) for pattern in rule.body]


def breach(rule, groups, held):
    """A list of facts that shows that a rule is broken, or None if it is kept."""
    if isinstance(rule, Rule):
        return first_breach(rule, groups, held)
    pair = first_pair(groups, rule)
    return None if pair is None else list(pair)


def broken(store, rules):
    """The index of the first broken rule and a list of facts that shows it, or None."""
    groups = store.groups()
    for index, rule in enumerate(rules):
        shown = breach(rule, groups, store.held())
        if shown is not None:
            return index, shown
    return None


def keeps(store, rules):
    """Whether a store keeps all rules of a list."""
    return broken(store, rules) is None


def exchange_for(one, other):
    """The terms (gone, kept) of the first place at which a pattern and a greater one differ."""
    low, high = [pair for pair in zip(one, other) if pair[0] != pair[1]][0]
    # The lesser pattern has the lesser term there, and variables are less than constants.
    if not is_free(low):
        raise Clash()
    return (high, low) if is_free(high) else (low, high)


def next_exchange(groups, rules):
    """The terms (gone, kept) that the first key asks for that does not hold, or None."""
    for rule in rules:
        pair = first_pair(groups, rule) if isinstance(rule, Key) else None
        if pair is not None:
            return exchange_for(pair[0], pair[1])
    return None


def heads_of(rule, groups, held):
    """The heads that an implication asks for and that are not there."""
    small = lacking(rule, groups, held)
    if small is None:
        names, rows = missing(rule, groups, held)
        return [filled(rule.head, dict(zip(names, row))) for row in rows]
    places, rows = small
    spots = head_at(rule, places)
    return [tuple([term if at < 0 else row[at] for term, at in spots]) for row in rows]


def closed(lot, rules):
    """The ascending patterns of a lot with all that follows by rules, and what became of its variables."""
    patterns = sorted(set(lot))
    terms = {name: name for name in variables_of(lot)}
    while True:
        groups = by_shape(patterns)
        change = next_exchange(groups, rules)
        if change is not None:
            gone, kept = change
            patterns = sorted({filled(pattern, {gone: kept}) for pattern in patterns})
            terms = {name: kept if term == gone else term for name, term in terms.items()}
            continue
        held = {pattern: True for pattern in patterns}
        heads = [head for rule in rules if isinstance(rule, Rule) for head in heads_of(rule, groups, held)]
        if not heads:
            return patterns, terms
        patterns = sorted(set([*patterns, *heads]))


def store_of(lot, taken=()):
    """The store of a lot in which each variable is replaced by a new constant, and these constants."""
    used = {term: True for pattern in lot for term in pattern[1:]}
    names = {}
    number = 0
    for name in variables_of(lot):
        number += 1
        while f"new{number}" in used or f"new{number}" in taken:
            number += 1
        names[name] = f"new{number}"
    return Store([filled(pattern, names) for pattern in lot]), names
