"""The spoiler's play: can each candidate of a wood be made to go on while no goal comes true."""

from fullestrows.cases import has_just
from fullestrows.errors import Clash
from fullestrows.facts import by_shape, filled, is_whole, variables_of
from fullestrows.matching import first_match, has_match
from fullestrows.questions import is_list
from fullestrows.rules import closed_on


class Seat:
    """A part of a question of a wood that has just the keys of a dict as its variables."""

    def __init__(self, tree, part, question):
        self.tree = tree
        self.part = part
        self.needs = question.lot_of(part)
        self.next_lots = [(node, question.lot_at(node)) for node in question.beneath(part)]


class Position:
    """A lot and a dict to its terms, between two choices of the spoiler."""

    def __init__(self, lot, known):
        self.known = known
        self.present = {pattern: True for pattern in lot}
        self.shapes = by_shape(self.present)


class Play:
    """What stays the same in a play."""

    def __init__(self, wood, known, goals, rules):
        self.goals = goals
        self.rules = rules
        self.seats = seats(wood, known)
        self.used = [name for question in wood for name in question.variables()]


def seats(wood, known):
    """The seats of a wood for the keys of a dict, in ascending order; there is one for a question at most."""
    parts = [(tree, question.part_with(list(known)), question) for tree, question in enumerate(wood)]
    return [Seat(tree, part, question) for tree, part, question in parts if part is not None]


def is_candidate(seat, position):
    """Whether all patterns of a seat, filled by the dict, are in the lot."""
    return all([filled(pattern, position.known) in position.present for pattern in seat.needs])


def moves_on(seat, position):
    """Whether the patterns of some next node of a seat can be led to the lot above the dict."""
    for _, lot in seat.next_lots:
        if has_match(lot, position.shapes, position.known):
            return True
    return False


def waits(seat, position):
    """Whether a seat is that of a candidate which does not go on."""
    return is_candidate(seat, position) and not moves_on(seat, position)


def candidates(lot, wood, known):
    """The ascending list of the tuples (tree, part) whose patterns, filled by a dict, are all in a lot."""
    position = Position(lot, known)
    return [(seat.tree, seat.part) for seat in seats(wood, known) if is_candidate(seat, position)]


def goes_on(lot, wood, known, tree, part):
    """Whether a candidate goes on: the patterns of some next node of its part can be led to the lot."""
    return moves_on(Seat(tree, part, wood[tree]), Position(lot, known))


def at_rest(play, done, added, known):
    """The position after a lot has been closed; it raises Clash as closing does.

    The lot has two parts, the first of which is closed already.
    """
    patterns, terms = closed_on(done, added, play.rules)
    return Position(patterns, {name: terms.get(known[name], known[name]) for name in sorted(known)})


def waiting_seat(play, position):
    """The seat of the first candidate that does not go on, or None."""
    for seat in play.seats:
        if waits(seat, position):
            return seat
    return None


def waiting_seats(play, position):
    """The seats of all candidates that do not go on, those with the fewest next nodes ahead."""
    return sorted([seat for seat in play.seats if waits(seat, position)], key=lambda seat: len(seat.next_lots))


def fresh_for(names, taken):
    """The first fresh variables that are not taken, for some names in ascending order."""
    found = {}
    number = 0
    for name in names:
        number += 1
        while f"?new{number}" in taken:
            number += 1
        found[name] = f"?new{number}"
    return found


def put_in(play, present, known, wanted):
    """The patterns of a node as they are put into a lot, with fresh variables for those that no term is known for."""
    taken = {name: True for name in [*variables_of(present), *play.used]}
    names = fresh_for([name for name in variables_of(wanted) if name not in known], taken)
    whole = {**names, **known}
    return [filled(pattern, whole) for pattern in wanted]


def first_had(play, position):
    """The paper for the first goal that is had, or None."""
    for index, goal in enumerate(play.goals):
        found = first_match(goal, position.shapes, position.known)
        if found is not None:
            return "had", index, found
    return None


def after_choices(play, position, seat):
    """How a play ends in which a seat is waiting, after whatever the spoiler chooses."""
    if not seat.next_lots:
        return "lost", ("stuck", seat.tree, seat.part)
    rows = []
    for node, lot in seat.next_lots:
        added = put_in(play, position.present, position.known, lot)
        end = ending(play, position.present, added, position.known)
        if end[0] == "won":
            return end
        rows.append((node, end[1]))
    return "lost", ("put", seat.tree, seat.part, rows)


def ending(play, done, added, known):
    """How a play ends that goes on with a lot of two parts and a dict: what spoil returns."""
    try:
        position = at_rest(play, done, added, known)
    except Clash:
        return "lost", ("clash",)
    had = first_had(play, position)
    if had is not None:
        return "lost", had
    seat = waiting_seat(play, position)
    if seat is None:
        return "won", list(position.present), position.known
    return after_choices(play, position, seat)


def spoil(lot, wood, known, *, goals=(), rules=()):
    """Whether the spoiler can win: a tuple won with the lot and the dict at the end, or lost with a paper."""
    return ending(Play(wood, known, goals, rules), [], lot, known)


def is_had(play, position):
    """Whether a goal is had."""
    for goal in play.goals:
        if has_match(goal, position.shapes, position.known):
            return True
    return False


def win_from(play, done, added, known):
    """The position in which the spoiler has won a play that goes on with a lot of two parts and a dict, or None.

    All candidates must be made to go on at last, so it does not matter which one is taken first; it is the
    one with the fewest choices, for one without any shows at once that the play is lost.
    """
    try:
        position = at_rest(play, done, added, known)
    except Clash:
        return None
    if is_had(play, position):
        return None
    waiting = waiting_seats(play, position)
    if not waiting:
        return position
    for _, lot in waiting[0].next_lots:
        more = put_in(play, position.present, position.known, lot)
        won = win_from(play, position.present, more, position.known)
        if won is not None:
            return won
    return None


def win_of(lot, wood, known, goals, rules):
    """The position in which the spoiler has won a play, or None if the spoiler loses it."""
    return win_from(Play(wood, known, goals, rules), [], lot, known)


def shows_goal(paper, play, position):
    """Whether a paper that begins with had tells how a goal is had."""
    if len(paper) != 3:
        return False
    _, index, found = paper
    if not is_whole(index) or not 0 <= index < len(play.goals):
        return False
    goal = play.goals[index]
    known = position.known
    if not has_just(found, sorted(set([*known, *variables_of(goal)]))):
        return False
    # A value may be of any kind, and then it is not fit to be looked up among the keys of a dict.
    lot = list(position.present)
    return (all([found[name] == known[name] for name in known])
            and all([filled(pattern, found) in lot for pattern in goal]))


def is_seat(value, seat):
    """Whether two items of a paper tell a seat."""
    if value != (seat.tree, seat.part):
        return False
    # True and False equal 1 and 0, but are no integers here.
    return is_whole(value[0]) and all([is_whole(node) for node in value[1]])


def shows_choices(rows, play, position, seat):
    """Whether the rows of a paper tell a paper for each choice."""
    if not is_list(rows) or len(rows) != len(seat.next_lots):
        return False
    for row, (node, lot) in zip(rows, seat.next_lots):
        if not isinstance(row, tuple) or len(row) != 2 or not is_whole(row[0]) or row[0] != node:
            return False
        added = put_in(play, position.present, position.known, lot)
        if not is_paper(row[1], play, position.present, added, position.known):
            return False
    return True


def is_paper(paper, play, done, added, known):
    """Whether any value is a paper for a play that goes on with a lot of two parts and a dict."""
    if not isinstance(paper, tuple):
        return False
    try:
        position = at_rest(play, done, added, known)
    except Clash:
        return paper == ("clash",)
    if paper[:1] == ("had",):
        return shows_goal(paper, play, position)
    seat = waiting_seat(play, position)
    if seat is None or not is_seat(paper[1:3], seat):
        return False
    if not seat.next_lots:
        return paper[0] == "stuck" and len(paper) == 3
    return paper[0] == "put" and len(paper) == 4 and shows_choices(paper[3], play, position, seat)


def is_lost(paper, lot, wood, known, *, goals=(), rules=()):
    """Whether any value is a paper that shows that the spoiler loses a play."""
    return is_paper(paper, Play(wood, known, goals, rules), [], lot, known)
