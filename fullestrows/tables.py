"""Tables: what the facts say of the variables of one pattern.

A table is a tuple (names, rows): the free variables of a pattern, in ascending
order, and the list of the tuples of terms that facts give to them. Variables of
the patterns stand only among the names and terms of the facts only in the rows,
so the two never mix, even if the terms of the facts are variables themselves.
"""

from fullestrows.facts import variables_of
from fullestrows.rows import fitting


def table_with(pattern, facts, known):
    """The table of a pattern, with known values for some of its variables, and with facts that fit it alone."""
    names = tuple([name for name in variables_of([pattern]) if name not in known])
    spots = [pattern.index(name) for name in names]
    return names, [picked(fact, spots) for fact in facts]


def tables_for(lot, groups, known):
    """The tables of the patterns of a lot; the facts are in groups by shape, each once."""
    return [table_with(pattern, fitting(pattern, groups, known), known) for pattern in sorted(set(lot))]


def picked(row, places):
    """The items of a row at some places."""
    return tuple([row[at] for at in places])


def partners(table, other):
    """The rows of a table with which some row of another table agrees."""
    names, rows = table
    others, more = other
    shared = [name for name in names if name in others]
    if not shared:
        return rows
    mine = [names.index(name) for name in shared]
    theirs = [others.index(name) for name in shared]
    wanted = {picked(row, theirs) for row in more}
    return [row for row in rows if picked(row, mine) in wanted]


def settled(tables, changed):
    """The tables without the rows to which another table has no partner, or None if one becomes empty.

    Only the tables at the places in changed may lack partners of the others at first.
    """
    left = list(tables)
    waiting = list(changed)
    while waiting:
        at = waiting.pop()
        for place, table in enumerate(list(left)):
            kept = table[1] if place == at else partners(table, left[at])
            if not kept:
                return None
            if len(kept) < len(table[1]):
                left[place] = (table[0], kept)
                if place not in waiting:
                    waiting.append(place)
    return left


def ready(tables):
    """The settled tables, those without names left out, or None if one of them cannot agree."""
    if not all([rows for _, rows in tables]):
        return None
    named = [table for table in tables if table[0]]
    return settled(named, list(range(len(named))))


def values_of(tables, name):
    """The ascending list of the terms that a name can have; settled tables agree about it."""
    for names, rows in tables:
        if name in names:
            at = names.index(name)
            return sorted({row[at] for row in rows})
    return []


def fixed(tables, name, value):
    """The settled tables that are left if a name gets one of its values, or None if there is no way."""
    left = []
    changed = []
    for names, rows in tables:
        if name not in names:
            left.append((names, rows))
        elif len(names) > 1:
            at = names.index(name)
            rest = [row[:at] + row[at + 1:] for row in rows if row[at] == value]
            changed.append(len(left))
            left.append((names[:at] + names[at + 1:], rest))
    return settled(left, changed)
