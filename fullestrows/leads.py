"""Leads: lots made ready to be led to the patterns of many grounds, with terms known for the same variables each time.

What can be told of a lot ahead is looked at once: which patterns have known variables only, in which order the others
are taken, and what must be the same in them. The ways are rows as in rows.py; where they become many, matching.py is
asked instead, for it never lists them.
"""

from fullestrows.facts import filled
from fullestrows.matching import first_match, has_match
from fullestrows.tables import picked

# Up to this number of rows the ways are listed.
MOST_LED = 200


class Lead:
    """A lot to be led to patterns by a dict above one that has just some variables as its keys; None tells of all."""

    def __init__(self, lot, names):
        self.asks = lot
        self.plain = lot
        self.spaces = {}
        self.steps = []
        free = [] if names is None else free_in(lot, names)
        if free:
            self.plain = [pattern for pattern in lot if pattern not in free]
            self.steps = steps_for(free, names, self.spaces)
        self.free_names = sorted(self.spaces)
        self.free_places = [self.spaces[name] for name in self.free_names]


def free_in(lot, names):
    """The patterns of a lot that have variables that are not among some names, those with the fewest of them ahead."""
    several = []
    for pattern in lot:
        many = len([term for term in pattern[1:] if term[0] == "?" and term not in names])
        if many > 0:
            several.append((many, pattern))
    return [pattern for _, pattern in sorted(several)]


def next_free(free, places):
    """The index of the pattern to be taken next: the first one with a variable that has a place already, or 0."""
    for index, pattern in enumerate(free):
        for term in pattern:
            if term in places:
                return index
    return 0


def step_for(pattern, names, places, width):
    """What a pattern asks of a fact: its shape, given terms, equal terms, and terms of the row so far.

    The new variables of the pattern get their places in the row, behind its width.
    """
    given = []
    twice = []
    links = []
    for at in range(1, len(pattern)):
        term = pattern[at]
        if term[0] != "?" or term in names:
            given.append((at, term))
        elif term not in places:
            places[term] = width + at
        elif places[term] > width:
            twice.append((at, places[term] - width))
        else:
            links.append((at, places[term]))
    # Only the first link is looked at for each pair of a row and a fact, the others in the longer rows.
    return (pattern[0], len(pattern)), given, twice, links[:1], [(width + at, place) for at, place in links[1:]]


def steps_for(free, names, places):
    """The steps for some patterns, one after another; the places are those of their variables in the rows."""
    steps = []
    left = list(free)
    width = 0
    while left:
        pattern = left.pop(next_free(left, places) if steps else 0)
        steps.append(step_for(pattern, names, places, width))
        width += len(pattern)
    return steps


def facts_for(step, shapes, known):
    """The patterns, out of groups by shape, that fit a step alone."""
    shape, given, twice, _, _ = step
    facts = shapes.get(shape, ())
    for at, name in given:
        term = known.get(name, name)
        facts = [fact for fact in facts if fact[at] == term]
    for at, first in twice:
        facts = [fact for fact in facts if fact[at] == fact[first]]
    return facts


def rows_led(steps, shapes, known):
    """All rows of patterns, out of groups by shape, that fit some steps together, or None if they may be many."""
    rows = facts_for(steps[0], shapes, known) if steps else [()]
    for step in steps[1:]:
        if not rows:
            return rows
        facts = facts_for(step, shapes, known)
        if len(rows) * len(facts) > MOST_LED:
            return None
        if step[3]:
            at, place = step[3][0]
            rows = [row + fact for row in rows for fact in facts if fact[at] == row[place]]
            for one, other in step[4]:
                rows = [row for row in rows if row[one] == row[other]]
        else:
            rows = [row + fact for row in rows for fact in facts]
    return rows


def plain_there(lead, present, known):
    """Whether the patterns of a lead that have known variables only are there, filled by their terms."""
    for pattern in lead.plain:
        if filled(pattern, known) not in present:
            return False
    return True


def plain_held(lead, present):
    """Whether the patterns of a lead that have known variables only are there as they are."""
    for pattern in lead.plain:
        if pattern not in present:
            return False
    return True


def is_free_led(lead, ground, known):
    """Whether some dict above known leads the other patterns of a lead to a ground."""
    if not lead.steps:
        return True
    rows = rows_led(lead.steps, ground.groups(), known)
    return has_match(lead.asks, ground.groups(), known) if rows is None else len(rows) > 0


def is_led(lead, ground, known):
    """Whether some dict above known leads a lot to the patterns of a ground."""
    return plain_there(lead, ground.present, known) and is_free_led(lead, ground, known)


def first_led(lead, ground, known):
    """The first dict above known that leads a lot to the patterns of a ground, or None."""
    return first_free_led(lead, ground, known) if plain_there(lead, ground.present, known) else None


def first_free_led(lead, ground, known):
    """The first dict above known that leads the other patterns of a lead to a ground, or None."""
    if not lead.steps:
        return {name: known[name] for name in sorted(known)}
    rows = rows_led(lead.steps, ground.groups(), known)
    if rows is None:
        return first_match(lead.asks, ground.groups(), known)
    if not rows:
        return None
    first = min([picked(row, lead.free_places) for row in rows])
    whole = {**known, **dict(zip(lead.free_names, first))}
    return {name: whole[name] for name in sorted(whole)}
