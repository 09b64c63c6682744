"""Maps: how the variables of a lot can stand for constants, so that its patterns are facts."""

from fullestrows.facts import by_shape, variables_of
from fullestrows.joins import ways_to
from fullestrows.rows import FEW_ROWS, MOST_ROWS, small_rows
from fullestrows.search import each_row, first_solution, is_tree
from fullestrows.tables import picked, ready, tables_for


def agree(one, other):
    """Whether two maps have the same constants for all variables that are keys of both."""
    return all([one[name] == other[name] for name in one if name in other])


def joined(one, other):
    """The map with the keys of both maps, which agree."""
    both = {**one, **other}
    return {name: both[name] for name in sorted(both)}


def is_above(one, other):
    """Whether the one map has all keys of the other one, with the same constants."""
    return all([name in one and one[name] == other[name] for name in other])


def only_keys(known, variables):
    """The map with those keys of a map that are in a list of variables."""
    return {name: known[name] for name in sorted(known) if name in variables}


def in_order(several):
    """The ascending list of some maps, each once."""
    return [dict(pairs) for pairs in sorted({tuple(sorted(known.items())) for known in several})]


def few_maps(lot, groups, start):
    """The ascending list of all maps above a dict that lead a lot to facts, or None if they may be many."""
    small = small_rows(lot, groups, start, MOST_ROWS)
    if small is None:
        return None
    places, rows = small
    names = sorted(places)
    spots = [places[name] for name in names]
    values = sorted([picked(row, spots) for row in rows])
    if not start:
        return [dict(zip(names, value)) for value in values]
    return [joined(start, dict(zip(names, value))) for value in values]


def each_of_many(lot, groups, start):
    """A generator of all maps above a dict that lead a lot to facts, in ascending order, without listing them."""
    names = [name for name in variables_of(lot) if name not in start]
    tables = ready(tables_for(lot, groups, start))
    if tables is not None:
        sure = is_tree(tables)
        for row in each_row(tables, names, (), sure):
            yield joined(start, dict(zip(names, row)))


def each_map(lot, store, known=None):
    """A generator of all maps above known that fit a lot in a store, in ascending order."""
    start = {} if known is None else dict(known)
    groups = store.groups()
    found = few_maps(lot, groups, start)
    if found is None:
        yield from each_of_many(lot, groups, start)
    else:
        yield from found


def maps(lot, store, known=None):
    """The list of all maps above known that fit a lot in a store, in ascending order."""
    return list(each_map(lot, store, known))


def first_match(lot, groups, known):
    """The first dict above known that leads a lot to facts or patterns, which are in groups by shape, or None."""
    start = {} if known is None else known
    small = small_rows(lot, groups, start, FEW_ROWS)
    if small is None:
        tables = ready(tables_for(lot, groups, start))
        found = None if tables is None else first_solution(tables)
        return None if found is None else joined(start, found)
    places, rows = small
    if not rows:
        return None
    names = sorted(places)
    spots = [places[name] for name in names]
    return joined(start, dict(zip(names, min([picked(row, spots) for row in rows]))))


def has_match(lot, groups, known):
    """Whether some dict above known leads a lot to facts or patterns, which are in groups by shape."""
    small = small_rows(lot, groups, known, FEW_ROWS)
    return first_match(lot, groups, known) is not None if small is None else len(small[1]) > 0


def first_map(lot, store, known=None):
    """The first map above known that fits a lot in a store, or None if there is none."""
    return first_match(lot, store.groups(), known)


def count_maps(lot, store, known=None):
    """The number of the maps above known that fit a lot in a store."""
    start = {} if known is None else known
    small = small_rows(lot, store.groups(), start, MOST_ROWS)
    if small is not None:
        return len(small[1])
    tables = ready(tables_for(lot, store.groups(), start))
    return 0 if tables is None else ways_to(tables, []).get((), 0)


def map_between(lot, others, known=None):
    """The first dict above known that leads a lot to patterns of another one, or None."""
    return first_match(lot, by_shape(others), known)
