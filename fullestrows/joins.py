"""How often rows agree through several tables (see tables.py), without going through all of it.

Here a table is a tuple (names, counts): the names in any order, and a dict that
tells for each row of values how many ways there are to it.
"""

from fullestrows.tables import picked


def joint(one, other):
    """The table with the names of two tables: for rows that agree, the ways are multiplied."""
    names, counts = one
    others, more = other
    shared = [name for name in others if name in names]
    added = [name for name in others if name not in names]
    theirs = [others.index(name) for name in shared]
    tail = [others.index(name) for name in added]
    ends = {}
    for row, ways in more.items():
        ends.setdefault(picked(row, theirs), []).append((picked(row, tail), ways))
    mine = [names.index(name) for name in shared]
    found = {}
    for row, ways in counts.items():
        for end, other_ways in ends.get(picked(row, mine), []):
            found[row + end] = ways * other_ways
    return (*names, *added), found


def all_joint(tables):
    """The table with the names of several tables."""
    whole = ((), {(): 1})
    for table in tables:
        whole = joint(whole, table)
    return whole


def summed(table, wanted):
    """The table with the wanted names only: for rows that become equal, the ways are added."""
    names, counts = table
    places = [names.index(name) for name in wanted]
    found = {}
    for row, ways in counts.items():
        short = picked(row, places)
        found[short] = found.get(short, 0) + ways
    return tuple(wanted), found


def width(tables, name):
    """The number of names in the tables that have a name."""
    return len({other for names, _ in tables if name in names for other in names})


def cheapest(tables, wanted):
    """The name to be removed next, of those that are not wanted, or None if there is none."""
    names = sorted({name for scope, _ in tables for name in scope if name not in wanted})
    options = [(width(tables, name), name) for name in names]
    return min(options)[1] if options else None


def ways_to(tables, wanted):
    """A dict from the rows of values for the wanted names to the number of solutions of the tables.

    The other names are removed one after another, each with as few names around it as can be.
    """
    left = [(names, {row: 1 for row in rows}) for names, rows in tables]
    name = cheapest(left, wanted)
    while name is not None:
        whole = all_joint([table for table in left if name in table[0]])
        short = summed(whole, [other for other in whole[0] if other != name])
        left = [*[table for table in left if name not in table[0]], short]
        name = cheapest(left, wanted)
    return summed(all_joint(left), wanted)[1]
