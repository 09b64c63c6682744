"""The spoiler's play: can each candidate of a wood be made to go on while no goal comes true."""

from fullestrows.cases import has_just
from fullestrows.closing import Ground, closed_ground, ground_with, grown
from fullestrows.errors import Clash
from fullestrows.facts import filled, is_whole, variables_of
from fullestrows.leads import Lead, first_led, is_led
from fullestrows.questions import is_list
from fullestrows.rules import book_of


class Seat:
    """A part of a question of a wood that has just the keys of a dict as its variables."""

    def __init__(self, tree, part, needs, nexts):
        self.tree = tree
        self.part = part
        self.needs = needs
        self.nexts = nexts


class Position:
    """A ground and a dict to its terms, between two choices of the spoiler."""

    def __init__(self, ground, known):
        self.ground = ground
        self.known = known


class Play:
    """What stays the same in a play: the seats and the wood they are of, the leads of the goals, and the rules.

    The variables of the wood are told when they are first asked for.
    """

    def __init__(self, wood, taken, goals, book):
        self.trees = wood
        self.seats = taken
        self.goals = goals
        self.book = book
        self.used = None


def seat_at(tree, question, part):
    """The seat of a part of a question, which has an index in its wood."""
    return Seat(tree, part, question.place_of(part).asks, question.leads_beneath(part))


def seats(wood, names):
    """The seats of a wood for an ascending tuple of variables, in ascending order; a question has one at most."""
    found = []
    for tree, question in enumerate(wood):
        place = question.place_having(names)
        if place is not None:
            found.append(seat_at(tree, question, place.part))
    return found


def play_of(wood, known, goals, rules):
    """The play of a dict against a wood, with some lots as goals and some rules."""
    return Play(wood, seats(wood, tuple(sorted(known))), [Lead(goal, known) for goal in goals], book_of(rules))


def is_candidate(seat, position):
    """Whether all patterns of a seat, filled by the dict, are in the lot."""
    for pattern in seat.needs:
        if filled(pattern, position.known) not in position.ground.present:
            return False
    return True


def moves_on(seat, position):
    """Whether the patterns of some next node of a seat can be led to the lot above the dict."""
    for _, lead in seat.nexts:
        if is_led(lead, position.ground, position.known):
            return True
    return False


def waits(seat, position):
    """Whether a seat is that of a candidate which does not go on."""
    return is_candidate(seat, position) and not moves_on(seat, position)


def candidates(lot, wood, known):
    """The ascending list of the tuples (tree, part) whose patterns, filled by a dict, are all in a lot."""
    position = Position(ground_with(lot), known)
    return [(seat.tree, seat.part) for seat in seats(wood, tuple(sorted(known))) if is_candidate(seat, position)]


def goes_on(lot, wood, known, tree, part):
    """Whether a candidate goes on: the patterns of some next node of its part can be led to the lot."""
    return moves_on(seat_at(tree, wood[tree], part), Position(ground_with(lot), known))


def moved_terms(known, ground):
    """A dict, with its keys in ascending order, to the terms that stand in a ground in the places of its values."""
    return {name: ground.moved.get(known[name], known[name]) for name in sorted(known)}


def opening(lot, known, book):
    """The position at the beginning, when the lot has been closed; it raises Clash as closing does."""
    ground = closed_ground(lot, book)
    return Position(ground, moved_terms(known, ground))


def store_position(store, known):
    """The position at the beginning of a play with a store that keeps the rules, so it is closed already."""
    return Position(Ground(store.held(), store.groups(), {}), known)


def with_added(position, added, book):
    """The position after patterns have been added and closed; it raises Clash as closing does."""
    # Nothing has moved that is added now: a fresh variable may have the name of one that is gone.
    base = Ground(position.ground.present, position.ground.groups(), {})
    ground = grown(base, added, book)
    return Position(ground, moved_terms(position.known, ground))


def waiting_seat(play, position):
    """The seat of the first candidate that does not go on, or None."""
    for seat in play.seats:
        if waits(seat, position):
            return seat
    return None


def waiting_seats(play, position):
    """The seats of all candidates that do not go on, those with the fewest next nodes ahead."""
    return sorted([seat for seat in play.seats if waits(seat, position)], key=lambda seat: len(seat.nexts))


def fresh_for(names, taken):
    """The first fresh variables that are not taken, for some names in ascending order."""
    found = {}
    number = 0
    for name in names:
        number += 1
        while f"?new{number}" in taken:
            number += 1
        found[name] = f"?new{number}"
    return found


def put_in(play, present, known, wanted):
    """The patterns of a node as they are put into a lot, with fresh variables for those that no term is known for."""
    free = [name for name in variables_of(wanted) if name not in known]
    if play.used is None:
        play.used = [name for question in play.trees for name in question.variables()]
    taken = {name: True for name in [*variables_of(present), *play.used]}
    whole = {**fresh_for(free, taken), **known}
    return [filled(pattern, whole) for pattern in wanted]


def after_choice_of(play, position, lead):
    """The position after a node has been chosen, which its lead tells; it raises Clash as closing does."""
    return with_added(position, put_in(play, position.ground.present, position.known, lead.asks), play.book)


def first_had(play, position):
    """The paper for the first goal that is had, or None."""
    for index, goal in enumerate(play.goals):
        found = first_led(goal, position.ground, position.known)
        if found is not None:
            return "had", index, found
    return None


def after_choices(play, position, seat):
    """How a play ends in which a seat is waiting, after whatever the spoiler chooses."""
    if not seat.nexts:
        return "lost", ("stuck", seat.tree, seat.part)
    rows = []
    for node, lead in seat.nexts:
        end = ending_with(play, position, lead)
        if end[0] == "won":
            return end
        rows.append((node, end[1]))
    return "lost", ("put", seat.tree, seat.part, rows)


def ending_with(play, position, lead):
    """How a play ends after a node has been chosen."""
    try:
        after = after_choice_of(play, position, lead)
    except Clash:
        return "lost", ("clash",)
    return ending(play, after)


def ending(play, position):
    """How a play ends that goes on from a position: what spoil returns."""
    had = first_had(play, position)
    if had is not None:
        return "lost", had
    seat = waiting_seat(play, position)
    if seat is None:
        return "won", sorted(position.ground.present), position.known
    return after_choices(play, position, seat)


def spoil(lot, wood, known, *, goals=(), rules=()):
    """Whether the spoiler can win: a tuple won with the lot and the dict at the end, or lost with a paper."""
    play = play_of(wood, known, goals, rules)
    try:
        position = opening(lot, known, play.book)
    except Clash:
        return "lost", ("clash",)
    return ending(play, position)


def is_had(play, position):
    """Whether a goal is had."""
    for goal in play.goals:
        if is_led(goal, position.ground, position.known):
            return True
    return False


def win_with(play, position, lead):
    """The position in which the spoiler has won a play after a node has been chosen, or None."""
    try:
        after = after_choice_of(play, position, lead)
    except Clash:
        return None
    return win_from(play, after)


def win_from(play, position):
    """The position in which the spoiler has won a play that goes on from a position, or None.

    All candidates must be made to go on at last, so it does not matter which one is taken first; it is the
    one with the fewest choices, for one without any shows at once that the play is lost.
    """
    if is_had(play, position):
        return None
    waiting = waiting_seats(play, position)
    if not waiting:
        return position
    for _, lead in waiting[0].nexts:
        won = win_with(play, position, lead)
        if won is not None:
            return won
    return None


def shows_goal(paper, play, position):
    """Whether a paper that begins with had tells how a goal is had."""
    if len(paper) != 3:
        return False
    _, index, found = paper
    if not is_whole(index) or not 0 <= index < len(play.goals):
        return False
    goal = play.goals[index].asks
    known = position.known
    if not has_just(found, sorted(set([*known, *variables_of(goal)]))):
        return False
    # What is no term leads the goal nowhere, and it need not be fit to be looked up among the keys of a dict.
    return (all([isinstance(term, str) for term in found.values()])
            and all([found[name] == known[name] for name in known])
            and all([filled(pattern, found) in position.ground.present for pattern in goal]))


def is_seat(value, seat):
    """Whether two items of a paper tell a seat."""
    if value != (seat.tree, seat.part):
        return False
    # True and False equal 1 and 0, but are no integers here.
    return is_whole(value[0]) and all([is_whole(node) for node in value[1]])


def shows_choices(rows, play, position, seat):
    """Whether the rows of a paper tell a paper for each choice."""
    if not is_list(rows) or len(rows) != len(seat.nexts):
        return False
    for row, (node, lead) in zip(rows, seat.nexts):
        if not isinstance(row, tuple) or len(row) != 2 or not is_whole(row[0]) or row[0] != node:
            return False
        if not is_paper_with(row[1], play, position, lead):
            return False
    return True


def is_paper_with(paper, play, position, lead):
    """Whether any value is a paper for a play that goes on after a node has been chosen."""
    try:
        after = after_choice_of(play, position, lead)
    except Clash:
        return paper == ("clash",)
    return is_paper(paper, play, after)


def is_paper(paper, play, position):
    """Whether any value is a paper for a play that goes on from a position."""
    if not isinstance(paper, tuple):
        return False
    if paper[:1] == ("had",):
        return shows_goal(paper, play, position)
    seat = waiting_seat(play, position)
    if seat is None or not is_seat(paper[1:3], seat):
        return False
    if not seat.nexts:
        return paper[0] == "stuck" and len(paper) == 3
    return paper[0] == "put" and len(paper) == 4 and shows_choices(paper[3], play, position, seat)


def is_lost(paper, lot, wood, known, *, goals=(), rules=()):
    """Whether any value is a paper that shows that the spoiler loses a play."""
    play = play_of(wood, known, goals, rules)
    try:
        position = opening(lot, known, play.book)
    except Clash:
        return paper == ("clash",)
    return is_paper(paper, play, position)
