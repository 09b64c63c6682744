"""The fewest facts to be taken out of a store so that a map which fits a part of a question is an answer of it.

Each way to have a next node of the part must lose a fact, and the facts of the part itself must stay. The ways may
be many, so they are looked for one by one, as long as one is left. Here the facts are told by their numbers.
"""

from fullestrows.facts import by_shape, filled
from fullestrows.matching import first_match, has_match


class Clearance:
    """A part of a question that a map fits in a store, and the ways to have a next node that have been met."""

    def __init__(self, question, part, store, known):
        self.known = known
        self.rows = store.facts
        self.numbers = {fact: at for at, fact in enumerate(store.facts)}
        self.own = sorted({filled(pattern, known) for pattern in question.lot_of(part)})
        self.lots = [question.lot_at(node) for node in question.beneath(part)]
        self.met = []


def is_hopeless(task):
    """Whether a next node can be had with facts alone that must stay."""
    shapes = by_shape(task.own)
    for lot in task.lots:
        if has_match(lot, shapes, task.known):
            return True
    return False


def way_found(task, gone):
    """The numbers of the facts, those that must stay left out, of a way that does without what is gone, or None."""
    shapes = by_shape([fact for at, fact in enumerate(task.rows) if at not in gone])
    for lot in task.lots:
        found = first_match(lot, shapes, task.known)
        if found is not None:
            facts = sorted({filled(pattern, found) for pattern in lot})
            return [task.numbers[fact] for fact in facts if fact not in task.own]
    return None


def ways_left(task, gone):
    """Some ways that do without what is gone; if there are none, no way is left."""
    left = [way for way in task.met if not any([at in gone for at in way])]
    if left:
        return left
    way = way_found(task, gone)
    if way is None:
        return []
    task.met.append(way)
    return [way]


def many_apart(ways):
    """How many of some ways can be taken one after another, such that no two of them have a fact in common."""
    used = []
    many = 0
    for way in sorted(ways, key=len):
        if not any([at in used for at in way]):
            used.extend(way)
            many += 1
    return many


def cleared(task, gone, stays, most):
    """The numbers of what is gone and of at most some more facts, without all of which no way is left, or None."""
    ways = [[at for at in way if at not in stays] for way in ways_left(task, gone)]
    if not ways:
        return gone
    if many_apart(ways) > most:
        return None
    shortest = min(ways, key=len)
    # What has been tried in vain stays, so that nothing is tried twice.
    for place, number in enumerate(shortest):
        found = cleared(task, [*gone, number], [*stays, *shortest[:place]], most - 1)
        if found is not None:
            return found
    return None
