"""Closing: what keys and implications ask of patterns, and what follows from a lot by them.

Here an implication is looked at as a list of fits: its body with the facts or patterns to which each pattern
of it may be led (see rows.py). So a part of the body can be held to what is fresh.
"""

from fullestrows.errors import Clash
from fullestrows.facts import by_shape, filled, is_free, variables_of
from fullestrows.joins import ways_to
from fullestrows.rows import FEW_ROWS, all_fitting, fitting, joined_rows
from fullestrows.search import first_solution
from fullestrows.tables import picked, ready, table_with


def first_pair(groups, key):
    """The first pair of different patterns that a key does not allow beside each other, or None.

    The patterns are in groups by shape, in ascending order.
    """
    patterns = groups.get((key.table, 1 + key.size), [])
    if len(patterns) < 2:
        return None
    spots = [1 + place for place in key.places]
    alike = {}
    for pattern in patterns:
        alike.setdefault(picked(pattern, spots), []).append(pattern)
    if len(alike) == len(patterns):
        return None
    return min([(group[0], group[1]) for group in alike.values() if len(group) > 1])


def head_at(head, places):
    """For each item of a head, a tuple of it and its place in the rows, or -1."""
    return [(term, places.get(term, -1)) for term in head]


def rows_lacking(head, fits, held):
    """The places and rows (see rows.py) with which the body is there, but not the head, or None for too many."""
    small = joined_rows(fits, {}, FEW_ROWS)
    if small is None or not small[1]:
        return small
    places, rows = small
    spots = head_at(head, places)
    return places, [row for row in rows
                    if tuple([term if at < 0 else row[at] for term, at in spots]) not in held]


def missing(head, tables, held):
    """The table (see tables.py) of the variables of a head for which the tables agree, but the head is not there."""
    names = tuple(variables_of([head]))
    ways = ways_to(tables, names)
    return names, [row for row in ways if filled(head, dict(zip(names, row))) not in held]


def tables_of_fits(fits):
    """The tables of the patterns of a body."""
    return [table_with(pattern, facts, {}) for pattern, facts in fits]


def first_breaking(head, fits, held):
    """The first map with which the body is there, but not the head, or None."""
    small = rows_lacking(head, fits, held)
    if small is None:
        several = tables_of_fits(fits)
        tables = ready([*several, missing(head, several, held)])
        return None if tables is None else first_solution(tables)
    places, rows = small
    if not rows:
        return None
    names = sorted(places)
    spots = [places[name] for name in names]
    return dict(zip(names, min([picked(row, spots) for row in rows])))


def first_breach(rule, groups, held):
    """The body of an implication, filled by the first map that breaks it, or None."""
    fits = all_fitting(rule.body, groups, {})
    found = None if fits is None else first_breaking(rule.head, fits, held)
    return None if found is None else [filled(pattern, found) for pattern in rule.body]


def heads_from(head, fits, held):
    """The heads that follow from fits and are not there; some may come twice."""
    small = rows_lacking(head, fits, held)
    if small is None:
        names, rows = missing(head, tables_of_fits(fits), held)
        return [filled(head, dict(zip(names, row))) for row in rows]
    places, rows = small
    spots = head_at(head, places)
    return [tuple([term if at < 0 else row[at] for term, at in spots]) for row in rows]


def fresh_fits(rule, fits, fresh):
    """All fits in which one pattern of the body is held to what is fresh, which is in groups by shape."""
    found = []
    for at, pattern in enumerate(rule.body):
        facts = fitting(pattern, fresh, {})
        if facts:
            found.append([*fits[:at], (pattern, facts), *fits[at + 1:]])
    return found


def new_heads(implications, patterns, groups, fresh):
    """The ascending list of the heads that follow by implications and are not there.

    Of what follows without the fresh patterns, nothing is missing; if they are many, it is looked at all the same.
    """
    held = {pattern: True for pattern in patterns}
    whole = 3 * len(fresh) >= len(patterns)
    shapes = by_shape(fresh)
    heads = []
    for rule in implications:
        fits = all_fitting(rule.body, groups, {})
        if fits is not None:
            several = [fits] if whole else fresh_fits(rule, fits, shapes)
            for one in several:
                heads.extend(heads_from(rule.head, one, held))
    return sorted(set(heads))


def exchange_for(one, other):
    """The terms (gone, kept) of the first place at which a pattern and a greater one differ."""
    low, high = [pair for pair in zip(one, other) if pair[0] != pair[1]][0]
    # The lesser pattern has the lesser term there, and variables are less than constants.
    if not is_free(low):
        raise Clash()
    return (high, low) if is_free(high) else (low, high)


def next_exchange(groups, keys):
    """The terms (gone, kept) that the first key asks for that does not hold, or None."""
    for key in keys:
        pair = first_pair(groups, key)
        if pair is not None:
            return exchange_for(pair[0], pair[1])
    return None


def end_of(done, added, keys, implications):
    """What closing makes of a lot: its ascending patterns, and what became of its variables.

    The lot has two parts; the first one is closed already, so what follows from it alone is in it.
    """
    patterns = sorted(set([*done, *added]))
    terms = {name: name for name in variables_of(patterns)}
    before = {pattern: True for pattern in done}
    fresh = [pattern for pattern in patterns if pattern not in before]
    while True:
        groups = by_shape(patterns)
        change = next_exchange(groups, keys)
        if change is not None:
            gone, kept = change
            # What is changed may be of use to an implication again.
            changed = [*fresh, *[pattern for pattern in patterns if gone in pattern]]
            fresh = sorted({filled(pattern, {gone: kept}) for pattern in changed})
            patterns = sorted({filled(pattern, {gone: kept}) for pattern in patterns})
            terms = {name: kept if term == gone else term for name, term in terms.items()}
            continue
        fresh = new_heads(implications, patterns, groups, fresh)
        if not fresh:
            return patterns, terms
        patterns = sorted([*patterns, *fresh])
