"""Closing: what keys and implications ask of patterns, and what follows from a lot by them.

Where the patterns are few, the body of an implication is looked at as a lead (see leads.py). Otherwise it is looked at
as a list of fits: the body with the facts or patterns to which each pattern of it may be led (see rows.py). So a part
of the body can be held to what is fresh.
"""

from fullestrows.errors import Clash
from fullestrows.facts import by_shape, filled, is_free, variables_of
from fullestrows.joins import ways_to
from fullestrows.leads import Lead, plain_there, rows_led
from fullestrows.rows import FEW_ROWS, all_fitting, fitting, joined_rows
from fullestrows.search import first_solution
from fullestrows.tables import picked, ready, table_with


class Body:
    """The body of an implication, made ready for closing, and where its head takes its terms from."""

    def __init__(self, lot, outcome):
        self.asks = lot
        self.outcome = outcome
        self.kinds = [(pattern[0], len(pattern)) for pattern in lot]
        self.told = (lot, outcome)
        self.lead = Lead(lot, ())
        self.spots = head_at(outcome, self.lead.spaces)


class Book:
    """Rules, made ready for closing: tuples (shape, spots) for what keys demand, and the bodies of implications.

    What is told of the rules is a tuple that is the same for equal rules only.
    """

    def __init__(self, demands, bodies, told):
        self.demands = demands
        self.bodies = bodies
        self.told = told


class Ground:
    """A lot with what follows from it: its patterns, these in groups by shape, and what has moved.

    What has moved is a dict from the variables that are gone to the terms that stand in their places. The patterns
    are no longer changed once the ground has been closed, and the lists of those of one shape never are.
    """

    def __init__(self, present, shapes, moved):
        self.present = present
        self._shapes = shapes
        self.moved = moved

    def groups(self):
        """The patterns in groups by shape; they are made when they are first asked for."""
        if self._shapes is None:
            self._shapes = by_shape(self.present)
        return self._shapes

    def put(self, patterns):
        """Puts patterns to a ground that is being closed, and returns those that were not there."""
        shapes = self.groups()
        fresh = []
        for pattern in patterns:
            if pattern not in self.present:
                self.present[pattern] = True
                shape = (pattern[0], len(pattern))
                shapes[shape] = [*shapes.get(shape, ()), pattern]
                fresh.append(pattern)
        return fresh

    def exchange(self, gone, kept):
        """Puts one term in the place of another one in a ground that is being closed, and returns what is changed."""
        shapes = self.groups()
        old = [pattern for pattern in self.present if gone in pattern]
        for pattern in old:
            del self.present[pattern]
        for shape in list({(pattern[0], len(pattern)): True for pattern in old}):
            shapes[shape] = [pattern for pattern in shapes[shape] if gone not in pattern]
        change = {gone: kept}
        changed = [filled(pattern, change) for pattern in old]
        self.put(changed)
        moved = {name: kept if term == gone else term for name, term in self.moved.items()}
        self.moved = {**moved, gone: kept}
        return changed


def first_pair(groups, key):
    """The first pair of different patterns that a key does not allow beside each other, or None.

    The patterns are in groups by shape, in ascending order.
    """
    patterns = groups.get((key.table, 1 + key.size), [])
    if len(patterns) < 2:
        return None
    spots = [1 + place for place in key.places]
    alike = {}
    for pattern in patterns:
        alike.setdefault(picked(pattern, spots), []).append(pattern)
    if len(alike) == len(patterns):
        return None
    return min([(group[0], group[1]) for group in alike.values() if len(group) > 1])


def head_at(head, places):
    """For each item of a head, a tuple of it and its place in the rows, or -1."""
    return [(term, places.get(term, -1)) for term in head]


def heads_of_rows(spots, rows):
    """The heads that rows tell; the spots are what head_at gives."""
    return [tuple([term if at < 0 else row[at] for term, at in spots]) for row in rows]


def rows_lacking(head, fits, held):
    """The places and rows (see rows.py) with which the body is there, but not the head, or None for too many."""
    small = joined_rows(fits, {}, FEW_ROWS)
    if small is None or not small[1]:
        return small
    places, rows = small
    spots = head_at(head, places)
    return places, [row for row in rows
                    if tuple([term if at < 0 else row[at] for term, at in spots]) not in held]


def missing(head, tables, held):
    """The table (see tables.py) of the variables of a head for which the tables agree, but the head is not there."""
    names = tuple(variables_of([head]))
    ways = ways_to(tables, names)
    return names, [row for row in ways if filled(head, dict(zip(names, row))) not in held]


def tables_of_fits(fits):
    """The tables of the patterns of a body."""
    return [table_with(pattern, facts, {}) for pattern, facts in fits]


def first_breaking(head, fits, held):
    """The first map with which the body is there, but not the head, or None."""
    small = rows_lacking(head, fits, held)
    if small is None:
        several = tables_of_fits(fits)
        tables = ready([*several, missing(head, several, held)])
        return None if tables is None else first_solution(tables)
    places, rows = small
    if not rows:
        return None
    names = sorted(places)
    spots = [places[name] for name in names]
    return dict(zip(names, min([picked(row, spots) for row in rows])))


def first_breach(rule, groups, held):
    """The body of an implication, filled by the first map that breaks it, or None."""
    fits = all_fitting(rule.body, groups, {})
    found = None if fits is None else first_breaking(rule.head, fits, held)
    return None if found is None else [filled(pattern, found) for pattern in rule.body]


def heads_from(head, fits, held):
    """The heads that follow from fits and are not there; some may come twice."""
    small = rows_lacking(head, fits, held)
    if small is None:
        names, rows = missing(head, tables_of_fits(fits), held)
        return [filled(head, dict(zip(names, row))) for row in rows]
    places, rows = small
    return heads_of_rows(head_at(head, places), rows)


def fresh_fits(body, fits, fresh):
    """All fits in which one pattern of a body is held to what is fresh, which is in groups by shape."""
    found = []
    for at, pattern in enumerate(body):
        facts = fitting(pattern, fresh, {})
        if facts:
            found.append([*fits[:at], (pattern, facts), *fits[at + 1:]])
    return found


def heads_of_many(body, ground, fresh):
    """The heads that follow by an implication where many patterns may fit its body, and that are not there."""
    fits = all_fitting(body.asks, ground.groups(), {})
    if fits is None:
        return []
    # If much is fresh, it does not pay to go through the body for each pattern of it.
    whole = 3 * len(fresh) >= len(ground.present)
    several = [fits] if whole else fresh_fits(body.asks, fits, by_shape(fresh))
    return [head for one in several for head in heads_from(body.outcome, one, ground.present)]


def few_heads(body, ground, shapes):
    """The heads that follow by an implication of patterns in groups by shape, or None if they may be many.

    They are told whether they are there or not; patterns of the body without variables may be anywhere in the ground.
    """
    for kind in body.kinds:
        if kind not in shapes:
            return []
    if not plain_there(body.lead, ground.present, {}):
        return []
    rows = rows_led(body.lead.steps, shapes, {})
    return None if rows is None else heads_of_rows(body.spots, rows)


def heads_by(body, ground, fresh, seen):
    """The heads that follow by an implication; some may be there already or come twice."""
    heads = few_heads(body, ground, seen if len(body.kinds) == 1 else ground.groups())
    return heads_of_many(body, ground, fresh) if heads is None else heads


def new_heads(bodies, ground, fresh, opened, seen):
    """The heads that follow by implications, where all that follows without what is fresh is there.

    What is fresh is seen in groups by shape, too. If the ground has just been opened, all of it is fresh, and even that
    is not there which follows from nothing.
    """
    heads = []
    for body in bodies:
        if opened or any([kind in seen for kind in body.kinds]):
            heads.extend(heads_by(body, ground, fresh, seen))
    return heads


def pair_alike(patterns, spots):
    """Two different patterns that have the same terms at some spots, or None; no pattern stands there twice."""
    if len(patterns) < 2:
        return None
    seen = {}
    for pattern in patterns:
        row = tuple([pattern[at] for at in spots])
        if row in seen:
            return seen[row], pattern
        seen[row] = pattern
    return None


def exchange_for(one, other):
    """The terms (gone, kept) of the first place at which two patterns differ."""
    at = 1
    while one[at] == other[at]:
        at += 1
    low, high = sorted([one[at], other[at]])
    # Variables are less than constants.
    if not is_free(low):
        raise Clash()
    return (high, low) if is_free(high) else (low, high)


def next_exchange(shapes, demands, seen):
    """The terms (gone, kept) that the first key asks for that does not hold, or None; what is fresh has been seen."""
    for shape, spots in demands:
        if shape in seen:
            pair = pair_alike(shapes[shape], spots)
            if pair is not None:
                return exchange_for(pair[0], pair[1])
    return None


def exchanged(ground, fresh, gone, kept):
    """Puts one term in the place of another one in a ground, and returns what is fresh then."""
    same = [pattern for pattern in fresh if gone not in pattern]
    # What is changed may be of use to an implication again.
    return list({pattern: True for pattern in [*same, *ground.exchange(gone, kept)]})


def follow(ground, added, book, opened):
    """Closes a ground to which some patterns have been added; raises Clash."""
    fresh = added
    while fresh or opened:
        seen = by_shape(fresh)
        change = next_exchange(ground.groups(), book.demands, seen) if book.demands else None
        if change is not None:
            fresh = exchanged(ground, fresh, change[0], change[1])
        else:
            fresh = ground.put(new_heads(book.bodies, ground, fresh, opened, seen)) if book.bodies else []
            opened = False


def ground_with(lot):
    """The ground of a lot as it is, from which nothing follows yet."""
    return Ground({pattern: True for pattern in lot}, None, {})


def closed_ground(lot, book):
    """The ground of a lot that is closed by rules; raises Clash."""
    ground = ground_with(lot)
    if book.told:
        follow(ground, list(ground.present), book, True)
    return ground


def grown(base, lot, book):
    """The ground of a lot and of what a closed ground has; raises Clash."""
    moved = base.moved
    shapes = base.groups()
    ground = Ground({pattern: True for pattern in base.present}, {shape: shapes[shape] for shape in shapes}, moved)
    follow(ground, ground.put([filled(pattern, moved) for pattern in lot] if moved else lot), book, False)
    return ground
