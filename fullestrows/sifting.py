"""Which strikes of a wood are needless, decided by the plays alone in which a strike has a part.

A strike changes one question. Nothing must be lost: what the question tells is to be told by what is left of it or by
the other questions. And nothing must be gained: what is left of it must tell nothing that the wood did not tell before.
A part that has the same patterns as before and the same next nodes loses and gains nothing.
"""

from fullestrows.games import Play, Position, Seat, seat_at, seats, win_from
from fullestrows.grounds import Course, course_of, ground_of, terms_at
from fullestrows.leads import Lead


class Sieve:
    """A wood and rules, and which parts of its questions tell nothing that the other questions do not tell."""

    def __init__(self, wood, book):
        self.trees = wood
        self.book = book
        self.covered = {}


class Less:
    """A question of a wood without a pattern in one of its nodes: the rest of the node, and the course of it all.

    What has gone are the new variables of the node that its rest has not, each with the child that has it, or None.
    """

    def __init__(self, sieve, tree, node, pattern):
        self.tree = tree
        self.question = sieve.trees[tree]
        self.node = node
        self.rest = [other for other in self.question.lot_at(node) if other != pattern]
        self.gone = gone_at(self.question, node, self.rest)
        self.course = course_less(course_of(self.question, sieve.book), node, self.rest)


def is_in(name, lot):
    """Whether a variable occurs in a lot."""
    return any([name in pattern for pattern in lot])


def gone_at(question, node, rest):
    """The dict from the new variables of a node that the rest of it has not to the child that has them, or None."""
    found = {}
    for name in question.new_at(node):
        if not is_in(name, rest):
            found[name] = None
            for child in question.children(node):
                if name in question.names_at(child):
                    found[name] = child
    return found


def course_less(course, node, rest):
    """The course of a question with the rest of a node only; the parts without this node are as they were."""
    found = Course([rest if at == node else lot for at, lot in enumerate(course.lots)], course.book)
    found.grounds = {part: course.grounds[part] for part in course.grounds if node not in part}
    # What the first node has no more might follow; if nothing did that it has not, nothing follows of less elsewhere.
    found.quiet = course.quiet is True and node > 0
    return found


def is_left(question, node, pattern):
    """Whether a question is left if a pattern is left out of a node."""
    rest = [other for other in question.lot_at(node) if other != pattern]
    gone = [name for name in question.names_at(node) if name in pattern and not is_in(name, rest)]
    for name in gone:
        # What two nodes around this one have in common hangs together through it alone.
        if len([other for other in question.around(node) if name in question.names_at(other)]) > 1:
            return False
    return node == 0 or any([name not in gone for name in question.new_at(node)])


def parts_with(question, node):
    """The parts that have a node, the shorter ones first."""
    return sorted([part for part in question.all_parts() if node in part], key=len)


def parts_ahead(question, node):
    """The parts that have a node as a next node."""
    return [part for part in question.all_parts() if question.parent(node) in part and node not in part]


def seats_elsewhere(sieve, tree, names):
    """The seats of the other questions of a wood for an ascending tuple of variables."""
    return [seat for seat in seats(sieve.trees, names) if seat.tree != tree]


def is_beaten(sieve, ground, names, goals, taken):
    """Whether the spoiler loses the play of a ground, which is None for a Clash, against some seats."""
    if ground is None:
        return True
    play = Play(sieve.trees, taken, goals, sieve.book)
    return win_from(play, Position(ground, terms_at(ground, names))) is None


def is_covered(sieve, tree, part):
    """Whether what a part of a question tells is told by the other questions."""
    if (tree, part) not in sieve.covered:
        question = sieve.trees[tree]
        names = question.place_of(part).owned
        ground = ground_of(course_of(question, sieve.book), part)
        goals = [lead for _, lead in question.leads_beneath(part)]
        sieve.covered[(tree, part)] = is_beaten(sieve, ground, names, goals, seats_elsewhere(sieve, tree, names))
    return sieve.covered[(tree, part)]


def are_covered(sieve, tree, parts):
    """Whether what some parts of a question tell is told by the other questions."""
    for part in parts:
        if not is_covered(sieve, tree, part):
            return False
    return True


def gains_without(sieve, tree, node):
    """Whether a question tells something new if a node and all that is beneath it are left out."""
    question = sieve.trees[tree]
    for part in parts_ahead(question, node):
        names = question.place_of(part).owned
        ground = ground_of(course_of(question, sieve.book), part)
        goals = [lead for other, lead in question.leads_beneath(part) if other != node]
        taken = [*seats_elsewhere(sieve, tree, names), seat_at(tree, question, part)]
        if not is_beaten(sieve, ground, names, goals, taken):
            return True
    return False


def is_same(less, part):
    """Whether a part has the same variables as before if a pattern is left out."""
    return all([child in part for child in less.gone.values()])


def goals_less(less, part, names):
    """The leads of the next nodes of a part that has some variables if a pattern is left out."""
    question = less.question
    if not less.gone:
        return [lead for _, lead in question.leads_beneath(part)]
    return [Lead(question.lot_at(node), [name for name in question.names_at(node) if name in names])
            for node in question.beneath(part)]


def gains_less(sieve, less):
    """Whether a question tells something new if a pattern is left out.

    A part with the node ahead can only be an answer less often, for the node is had more often.
    """
    question = less.question
    for part in parts_with(question, less.node):
        ground = ground_of(less.course, part)
        names = tuple([name for name in question.place_of(part).owned
                       if name not in less.gone or less.gone[name] in part])
        taken = seats_elsewhere(sieve, less.tree, names)
        if is_same(less, part):
            taken = [*taken, seat_at(less.tree, question, part)]
        if not is_beaten(sieve, ground, names, goals_less(less, part, names), taken):
            return True
    return False


def loses_less(sieve, less):
    """Whether something is lost of a part with the node ahead, for the node is had more often without a pattern."""
    if less.node == 0:
        return False
    question = less.question
    new = question.new_at(less.node)
    lead = Lead(less.rest, [name for name in question.names_at(less.node) if name not in new])
    for part in parts_ahead(question, less.node):
        if not is_covered(sieve, less.tree, part):
            place = question.place_of(part)
            ground = ground_of(course_of(question, sieve.book), part)
            beneath = question.leads_beneath(part)
            nexts = [(node, lead if node == less.node else other) for node, other in beneath]
            taken = [*seats_elsewhere(sieve, less.tree, place.owned), Seat(less.tree, part, place.asks, nexts)]
            if not is_beaten(sieve, ground, place.owned, [other for _, other in beneath], taken):
                return True
    return False


def is_needless_pattern(sieve, tree, node, pattern):
    """Whether a pattern can be left out of a node of a question."""
    less = Less(sieve, tree, node, pattern)
    if gains_less(sieve, less) or loses_less(sieve, less):
        return False
    # With the same variables as before, a part with the node asks for less and is an answer of what is left, too.
    return are_covered(sieve, tree, [part for part in parts_with(less.question, node) if not is_same(less, part)])


def is_needless(sieve, strike):
    """Whether a wood and the wood after one of its strikes are alike."""
    tree = strike[1]
    question = sieve.trees[tree]
    if strike[0] == "tree":
        return are_covered(sieve, tree, question.all_parts())
    if strike[0] == "node":
        return are_covered(sieve, tree, parts_with(question, strike[2])) and not gains_without(sieve, tree, strike[2])
    return is_needless_pattern(sieve, tree, strike[2], strike[3])
