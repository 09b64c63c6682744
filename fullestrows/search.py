"""The search for rows that agree through several settled tables (see tables.py)."""

from fullestrows.tables import fixed, values_of


def touches(group, table):
    """Whether a table has a name of some table of a group."""
    return any([name in table[0] for names, _ in group for name in names])


def groups(tables):
    """The tables in groups, such that those of different groups have no name in common."""
    found = []
    for table in tables:
        near = [group for group in found if touches(group, table)]
        apart = [group for group in found if not touches(group, table)]
        found = [*apart, [*[one for group in near for one in group], table]]
    return found


def first_solution(tables):
    """The first dict from all names of settled tables to values with which all of them agree, or None.

    Each group is searched alone, so no group is gone through again because of another one;
    the first values of all groups together are the first ones on the whole.
    """
    solution = {}
    for group in groups(tables):
        found = first_of_group(group)
        if found is None:
            return None
        solution.update(found)
    return solution


def first_of_group(group):
    """The first solution of one group of settled tables, or None."""
    first = min([name for names, _ in group for name in names])
    for value in values_of(group, first):
        left = fixed(group, first, value)
        found = None if left is None else first_solution(left)
        if found is not None:
            return {first: value, **found}
    return None


def is_inside(scope, other):
    """Whether all names of one scope are in another one."""
    return all([name in other for name in scope])


def trimmed(scopes):
    """The scopes without the names that only one of them has, and without those inside others."""
    many = {}
    for names in scopes:
        for one in names:
            many[one] = many.get(one, 0) + 1
    cut = sorted({tuple([name for name in scope if many[name] > 1]) for scope in scopes})
    return [scope for scope in cut
            if scope and not any([scope != other and is_inside(scope, other) for other in cut])]


def is_tree(tables):
    """Whether the names of the tables hang together as in a tree.

    Then settled tables always have a solution, and so they have when further names are fixed.
    """
    scopes = [names for names, _ in tables]
    while scopes:
        smaller = trimmed(scopes)
        if smaller == scopes:
            return False
        scopes = smaller
    return True


def each_row(tables, names, chosen, sure):
    """A generator of the values, in ascending order, that solutions give to all names of settled tables.

    Values for the first names are chosen already; sure tells that the tables are a tree.
    """
    if len(chosen) == len(names):
        yield chosen
        return
    name = names[len(chosen)]
    for value in values_of(tables, name):
        left = fixed(tables, name, value)
        if left is not None:
            tree = sure or is_tree(left)
            # A way that leads nowhere is left at once, or it might be gone into again and again.
            if tree or first_solution(left) is not None:
                more = (*chosen, value)
                yield from each_row(left, names, more, tree)
