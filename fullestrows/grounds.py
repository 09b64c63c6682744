"""The grounds of the parts of questions: what follows from their patterns by rules.

A part without its last node is a part, too, so each ground grows out of that of the part ahead of it.
"""

from fullestrows.closing import closed_ground, few_heads, ground_with, grown, pair_alike
from fullestrows.errors import Clash


class Course:
    """The grounds of the parts of a question, of which the lots of the nodes are told, by some rules.

    They are found when they are first asked for. If the course is quiet, nothing follows from any part.
    """

    def __init__(self, lots, book):
        self.lots = lots
        self.book = book
        self.grounds = {}
        self.quiet = None


def course_of(question, book):
    """The course of a question by some rules, which is kept there."""
    course = question.course_by(book.told)
    if course is None:
        course = Course(question.all_lots(), book)
        question.keep_course(book.told, course)
    return course


def is_quiet(lots, book):
    """Whether nothing follows from any part, as nothing follows from all lots together but what the first one has.

    What another lot has need not be in a part from which it follows, but the first one is in all parts.
    """
    ground = ground_with([pattern for lot in lots for pattern in lot])
    for shape, spots in book.demands:
        if pair_alike(ground.groups().get(shape, ()), spots) is not None:
            return False
    for body in book.bodies:
        heads = few_heads(body, ground, ground.groups())
        if heads is None or not all([head in lots[0] for head in heads]):
            return False
    return True


def grown_ground(course, base, lot):
    """The ground of a part whose last node has a lot, out of that of the part without it; raises Clash."""
    if course.quiet is None:
        course.quiet = is_quiet(course.lots, course.book)
    return ground_with([*base.present, *lot]) if course.quiet else grown(base, lot, course.book)


def new_ground(course, part):
    """The ground of a part, or None if closing it raises Clash."""
    lot = course.lots[part[-1]]
    base = ground_of(course, part[:-1]) if len(part) > 1 else None
    if base is None and len(part) > 1:
        return None
    try:
        return closed_ground(lot, course.book) if base is None else grown_ground(course, base, lot)
    except Clash:
        return None


def ground_of(course, part):
    """The ground of a part, or None if closing it raises Clash."""
    if part not in course.grounds:
        course.grounds[part] = new_ground(course, part)
    return course.grounds[part]


def terms_at(ground, names):
    """The terms that stand in the places of some variables in a ground."""
    return {name: ground.moved.get(name, name) for name in names}
