"""Rows of facts: all ways in which a lot fits some facts, found at once if there are not too many.

A row is a tuple of the facts for the patterns, one behind the other, each with its table and terms; a
dict of places tells where in the rows a variable has its constant. The variables of the lot stand only
in the patterns and the terms of the facts only in the rows, so the two never mix, even if the terms of
the facts are variables themselves.
"""

# Beyond these numbers of rows the ways of search.py and joins.py are better, for they never list what is not
# asked for: the first number is for what is to be listed, the second one if not all of it is asked for.
MOST_ROWS = 1000
FEW_ROWS = 200
# Beyond this number of pairs an index is worth its making.
MOST_PAIRS = 100


def fitting(pattern, groups, known):
    """The facts, out of groups by shape, that fit a pattern alone, with known values for some variables."""
    facts = groups.get((pattern[0], len(pattern)), [])
    for at in range(1, len(pattern)):
        term = pattern[at]
        if term[0] != "?":
            facts = [fact for fact in facts if fact[at] == term]
        elif term in known:
            value = known[term]
            facts = [fact for fact in facts if fact[at] == value]
        else:
            first = pattern.index(term)
            if first < at:
                facts = [fact for fact in facts if fact[at] == fact[first]]
    return facts


def nearest(waiting, places):
    """The index of the first waiting pattern with a variable that has a place already, or 0."""
    for index, entry in enumerate(waiting):
        if any([term in places for term in entry[1]]):
            return index
    return 0


def indexed(rows, facts, at, place, most):
    """The rows, each followed by the facts that have at one spot what the row has at a place, or None."""
    ends = {}
    for fact in facts:
        ends.setdefault(fact[at], []).append(fact)
    if sum([len(ends.get(row[place], [])) for row in rows]) > most:
        return None
    return [row + fact for row in rows for fact in ends.get(row[place], [])]


def extended(rows, facts, links, most):
    """The rows, each followed by each fact that goes with it by the first link, or None for more than the most.

    A link is a tuple of a spot in the facts and a place in the rows that must have the same.
    """
    many = len(rows) * len(facts)
    if not links:
        return None if many > most else [row + fact for row in rows for fact in facts]
    at, place = links[0]
    if many > MOST_PAIRS:
        return indexed(rows, facts, at, place, most)
    return [row + fact for row in rows for fact in facts if fact[at] == row[place]]


def all_fitting(lot, groups, known):
    """The list of tuples (pattern, facts) with the facts that fit each pattern alone, or None if one has none."""
    found = []
    for pattern in lot:
        facts = fitting(pattern, groups, known)
        if not facts:
            return None
        found.append((pattern, facts))
    return found


def joined_rows(fits, known, most):
    """A tuple (places, rows) of all ways in which patterns fit together, or None if there may be more than most.

    For each pattern, fits has the facts that it may be led to, one at least. No way comes twice. Without rows,
    the places mean nothing.
    """
    places = {}
    rows = [()]
    width = 0
    waiting = sorted([(len(facts), pattern, facts) for pattern, facts in fits])
    while waiting and rows:
        _, pattern, facts = waiting.pop(nearest(waiting, places) if width else 0)
        links = []
        for at in range(1, len(pattern)):
            term = pattern[at]
            if term[0] == "?" and term not in known:
                place = places.setdefault(term, width + at)
                if place < width:
                    links.append((at, place))
        rows = extended(rows, facts, links, most) if width else facts
        if rows is None:
            return None
        for at, place in links[1:]:
            rows = [row for row in rows if row[width + at] == row[place]]
        width += len(pattern)
    return places, rows


def small_rows(lot, groups, known, most):
    """A tuple (places, rows) of all ways in which a lot fits, as joined_rows gives it."""
    fits = all_fitting(lot, groups, known)
    return ({}, []) if fits is None else joined_rows(fits, known, most)
