"""The answers of woods in stores: maps that are as full as can be."""

from fullestrows.closing import Ground
from fullestrows.errors import NoPart
from fullestrows.facts import filled
from fullestrows.leads import first_led
from fullestrows.matching import each_map, has_match, in_order, joined


def all_there(lot, store, known):
    """Whether all patterns of a lot, filled by a map that has all their variables, are facts of a store."""
    held = store.held()
    return all([filled(pattern, known) in held for pattern in lot])


def each_fuller(question, store, waiting, known):
    """A generator of the answers above a map of a question; the nodes that are waiting are still to be tried.

    What is beneath a node depends on nothing but its map, so each map that is found leads to an answer.
    """
    if not waiting:
        yield known
        return
    node = waiting[0]
    rest = waiting[1:]
    more = [*question.children(node), *rest]
    lot = question.lot_at(node)
    had = False
    for found in each_map(lot, store, known):
        had = True
        yield from each_fuller(question, store, more, found)
    # Without its first node a question has no answer; another node may be missing.
    if not had and node > 0:
        yield from each_fuller(question, store, rest, known)


def told(question, part, store, known):
    """Whether a map with just the variables of a part is an answer of a question."""
    if not all_there(question.lot_of(part), store, known):
        return False
    for node in question.beneath(part):
        if has_match(question.lot_at(node), store.groups(), known):
            return False
    return True


def tellers(wood, store, known):
    """The list of the tuples (tree, part) of the questions that have a map as their answer."""
    found = []
    for tree, question in enumerate(wood):
        part = question.part_with(list(known))
        if part is not None and told(question, part, store, known):
            found.append((tree, part))
    return found


def is_answer(wood, store, known):
    """Whether a map is an answer of a wood in a store."""
    return len(tellers(wood, store, known)) > 0


def each_answer(wood, store):
    """A generator of the answers of a wood in a store, each once."""
    trees = list(wood)
    for tree, question in enumerate(trees):
        ahead = trees[:tree]
        for known in each_fuller(question, store, [0], {}):
            if not is_answer(ahead, store, known):
                yield known


def answers(wood, store):
    """The ascending list of the answers of a wood in a store, each once."""
    return in_order(list(each_answer(wood, store)))


def by_part(question, store):
    """A dict from all parts of a question to the answers whose keys are just the variables of the part."""
    found = {part: [] for part in question.parts()}
    for known in answers([question], store):
        found[question.part_with(list(known))].append(known)
    return found


def part_fitted(question, store, known):
    """The part of a question that has just the keys of a map as its variables and is fitted by it."""
    part = question.part_with(list(known))
    if part is None or not all_there(question.lot_of(part), store, known):
        raise NoPart(dict(known))
    return part


def fullest(question, store, known):
    """An answer of a question above a map that fits one of its parts."""
    return filled_up(question, part_fitted(question, store, known), store, known)


def filled_up(question, part, store, known):
    """An answer of a question above a map that fits one of its parts."""
    ground = Ground(store.held(), store.groups(), {})
    waiting = question.beneath(part)
    found = joined(known, {})
    while waiting:
        node = waiting.pop()
        more = first_led(question.lead_at(node), ground, found)
        if more is not None:
            found = more
            waiting.extend(question.children(node))
    return found


def has_above(wood, store, known):
    """Whether a wood has an answer in a store above a map.

    It is enough that the least part of a question with the keys of the map fits above it, for fullest does the rest.
    """
    for question in wood:
        part = question.least_part(list(known))
        if part is not None and has_match(question.lot_of(part), store.groups(), known):
            return True
    return False


def lost(wood, store, later):
    """The ascending list of the answers in one store above which there is no answer in another store."""
    return [known for known in answers(wood, store) if not has_above(wood, later, known)]


def changes(wood, store, later):
    """The lists of the answers in one store only, and of those in another store only."""
    gone = [known for known in answers(wood, store) if not is_answer(wood, later, known)]
    come = [known for known in answers(wood, later) if not is_answer(wood, store, known)]
    return gone, come
