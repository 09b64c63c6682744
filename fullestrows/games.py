"""The spoiler's play: can each candidate of a wood be made to go on, and no goal come true."""

from fullestrows.errors import Clash
from fullestrows.facts import filled, is_whole, variables_of
from fullestrows.matching import map_between
from fullestrows.questions import is_list
from fullestrows.rules import closed


def seats(wood, known):
    """The ascending list of the tuples (tree, part) whose variables are just the keys of a dict."""
    found = [(tree, question.part_with(list(known))) for tree, question in enumerate(wood)]
    return [(tree, part) for tree, part in found if part is not None]


def is_there(question, part, lot, known):
    """Whether all patterns of a part, filled by a dict, are in a lot."""
    return all([filled(pattern, known) in lot for pattern in question.patterns(part)])


def can_go_on(question, part, lot, known):
    """Whether some next node of a part can be led to a lot above a dict."""
    nodes = question.next_nodes(part)
    return any([map_between(question.lot_at(node), lot, known) is not None for node in nodes])


def candidates(lot, wood, known):
    """The ascending list of the tuples (tree, part) that could tell a dict as an answer in a lot."""
    return [(tree, part) for tree, part in seats(wood, known) if is_there(wood[tree], part, lot, known)]


def goes_on(lot, wood, known, tree, part):
    """Whether a candidate goes on: some next node of its part can be led to the lot."""
    return can_go_on(wood[tree], part, lot, known)


class Play:
    """What stays the same in a play: the wood, the goals and the rules."""

    def __init__(self, wood, known, goals, rules):
        self.wood = wood
        self.goals = goals
        self.rules = rules
        self.seats = seats(wood, known)
        self.names = {name: True for question in wood for name in question.variables()}


def waiting_candidate(play, lot, known):
    """The first candidate (tree, part) that does not go on, or None."""
    for tree, part in play.seats:
        question = play.wood[tree]
        if is_there(question, part, lot, known) and not can_go_on(question, part, lot, known):
            return tree, part
    return None


def replaced(known, terms):
    """The dict known, with its keys in ascending order, after closing has replaced some terms."""
    return {name: terms.get(known[name], known[name]) for name in sorted(known)}


def fresh_for(names, taken):
    """The first fresh variables that are not taken, for some names in ascending order."""
    found = {}
    number = 0
    for name in names:
        number += 1
        while f"?new{number}" in taken:
            number += 1
        found[name] = f"?new{number}"
    return found


def with_node(play, lot, known, wanted):
    """The lot to which the patterns of a node are put, with fresh variables for its new ones."""
    taken = {name: True for name in [*variables_of(lot), *play.names]}
    fresh = fresh_for([name for name in variables_of(wanted) if name not in known], taken)
    return [*lot, *[filled(pattern, {**fresh, **known}) for pattern in wanted]]


def first_goal(play, lot, known):
    """The paper for the first goal that is had, or None."""
    for index, goal in enumerate(play.goals):
        found = map_between(goal, lot, known)
        if found is not None:
            return "had", index, found
    return None


def played(play, lot, known):
    """What spoil returns for a play that goes on with a lot."""
    try:
        patterns, terms = closed(lot, play.rules)
    except Clash:
        return "lost", ("clash",)
    now = replaced(known, terms)
    had = first_goal(play, patterns, now)
    if had is not None:
        return "lost", had
    waiting = waiting_candidate(play, patterns, now)
    if waiting is None:
        return "won", patterns, now
    return with_choices(play, patterns, now, waiting)


def with_choices(play, lot, known, waiting):
    """What spoil returns if a candidate does not go on; all its next nodes are tried."""
    tree, part = waiting
    question = play.wood[tree]
    rows = []
    for node in question.next_nodes(part):
        end = played(play, with_node(play, lot, known, question.lot_at(node)), known)
        if end[0] == "won":
            return end
        rows.append((node, end[1]))
    return "lost", (("put", tree, part, rows) if rows else ("stuck", tree, part))


def spoil(lot, wood, known, *, goals=(), rules=()):
    """Whether the spoiler can win: a tuple won with the lot and the dict at the end, or lost with a paper."""
    return played(Play(wood, known, goals, rules), lot, known)


def is_had(paper, play, lot, known):
    """Whether a paper that begins with had tells how a goal is had."""
    if len(paper) != 3 or not isinstance(paper[2], dict):
        return False
    _, index, found = paper
    if not is_whole(index) or not 0 <= index < len(play.goals):
        return False
    goal = play.goals[index]
    wanted = sorted(set([*known, *variables_of(goal)]))
    return (len(found) == len(wanted) and all([name in found for name in wanted])
            and all([found[name] == known[name] for name in known])
            and all([filled(pattern, found) in lot for pattern in goal]))


def is_seat(question, value, waiting):
    """Whether two items of a paper tell the candidate that is waiting."""
    return value == waiting and is_whole(value[0]) and question.is_part(value[1])


def are_rows(rows, play, lot, known, waiting):
    """Whether the rows of a paper tell a paper for each choice."""
    tree, part = waiting
    question = play.wood[tree]
    nodes = question.next_nodes(part)
    if not is_list(rows) or len(rows) != len(nodes):
        return False
    for node, row in zip(nodes, rows):
        if not isinstance(row, tuple) or len(row) != 2 or not is_whole(row[0]) or row[0] != node:
            return False
        if not is_paper(row[1], play, with_node(play, lot, known, question.lot_at(node)), known):
            return False
    return True


def is_paper(paper, play, lot, known):
    """Whether any value is a paper for a play that goes on with a lot."""
    if not isinstance(paper, tuple):
        return False
    try:
        patterns, terms = closed(lot, play.rules)
    except Clash:
        return paper == ("clash",)
    now = replaced(known, terms)
    if paper[:1] == ("had",):
        return is_had(paper, play, patterns, now)
    waiting = waiting_candidate(play, patterns, now)
    if waiting is None or not is_seat(play.wood[waiting[0]], paper[1:3], waiting):
        return False
    if not play.wood[waiting[0]].next_nodes(waiting[1]):
        return paper[:1] == ("stuck",) and len(paper) == 3
    return paper[:1] == ("put",) and len(paper) == 4 and are_rows(paper[3], play, patterns, now, waiting)


def is_lost(paper, lot, wood, known, *, goals=(), rules=()):
    """Whether any value is a paper that shows that the spoiler loses a play."""
    return is_paper(paper, Play(wood, known, goals, rules), lot, known)
