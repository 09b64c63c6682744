"""A desk: a store that changes step by step and keeps its rules all the time, and woods with names."""

from fullestrows.answers import answers, changes
from fullestrows.cases import must_keep
from fullestrows.errors import (
    BadFact, BadLine, BadQuestion, BadText, NoName, NothingToRedo, NothingToUndo, NotThere, ThereAlready,
)
from fullestrows.facts import Store, facts_told, is_fact, is_name, is_whole, lines_of
from fullestrows.questions import Question


def must_be_there(store, gone):
    """Raises NotThere unless any values are facts of a store, each of them different."""
    seen = {}
    for value in gone:
        if value not in store or value in seen:
            raise NotThere(value)
        seen[value] = True


def must_be_new(store, come):
    """Raises ThereAlready unless some facts are not in a store, each of them different."""
    seen = {}
    for fact in come:
        if fact in store or fact in seen:
            raise ThereAlready(fact)
        seen[fact] = True


def exchanged(store, gone, come, rules):
    """The store in which some facts, which may be any values, are exchanged for others."""
    must_be_there(store, gone)
    for value in come:
        if not is_fact(value):
            raise BadFact(value)
    left = store - Store(gone)
    must_be_new(left, come)
    after = left + Store(come)
    must_keep(after, rules)
    return after


class Trial:
    """What a desk is taken back to when a block ends; each object is for one block."""

    def __init__(self, desk):
        self._desk = desk
        self._now = None
        self._done = None
        self._undone = None

    def __enter__(self):
        self._now = self._desk._now
        self._done = self._desk._done
        self._undone = self._desk._undone
        return self._desk

    def __exit__(self, kind, value, trace):
        self._desk._now = self._now
        self._desk._done = self._done
        self._desk._undone = self._undone


class Desk:
    """A store that keeps some rules and woods with names; its steps can be taken back and made again.

    What the desk has is a tuple of the store and a dict from the names to the tuples of questions. It is never
    changed, only exchanged for another one; so what it has been before each step needs only to be kept.
    """

    def __init__(self, facts=(), *, rules=()):
        self._rules = tuple(rules)
        self._now = (Store(facts), {})
        self._done = ()
        self._undone = ()
        must_keep(self._now[0], self._rules)

    @property
    def store(self):
        """The store."""
        return self._now[0]

    @property
    def names(self):
        """The ascending list of the names of woods."""
        return sorted(self._now[1])

    def __len__(self):
        return len(self._done)

    def step(self, store, woods):
        """Makes a step to another store and other woods."""
        self._done = (*self._done, self._now)
        self._undone = ()
        self._now = (store, woods)

    def exchange(self, gone, come):
        """Takes the facts of one list out of the store and puts those of another list in."""
        self.step(exchanged(self._now[0], gone, come, self._rules), self._now[1])

    def put(self, facts):
        """Puts facts into the store."""
        self.exchange([], facts)

    def strike(self, facts):
        """Takes facts out of the store."""
        self.exchange(facts, [])

    def name(self, name, wood):
        """Gives a wood a name."""
        if not is_name(name):
            raise NoName(name)
        for value in wood:
            if not isinstance(value, Question):
                raise BadQuestion(value)
        store, woods = self._now
        self.step(store, {**woods, name: tuple(wood)})

    def forget(self, name):
        """Takes a name away."""
        self.named(name)
        store, woods = self._now
        self.step(store, {other: woods[other] for other in woods if other != name})

    def undo(self):
        """Takes back the last step that has not been taken back."""
        if not self._done:
            raise NothingToUndo()
        self._undone = (*self._undone, self._now)
        self._now = self._done[-1]
        self._done = self._done[:-1]

    def redo(self):
        """Makes the step again that was taken back last, if no step has been made since."""
        if not self._undone:
            raise NothingToRedo()
        self._done = (*self._done, self._now)
        self._now = self._undone[-1]
        self._undone = self._undone[:-1]

    def named(self, name):
        """The tuple of the questions of the wood with a name, which may be any value."""
        woods = self._now[1]
        if not is_name(name) or name not in woods:
            raise NoName(name)
        return woods[name]

    def wood(self, name):
        """The list of the questions of the wood with a name."""
        return list(self.named(name))

    def answers(self, name):
        """The ascending list of the answers of the wood with a name."""
        return answers(self.named(name), self._now[0])

    def news(self, name, steps):
        """The answers of the wood with a name that are gone, and those that have come, since some steps ago."""
        wood = self.named(name)
        if not is_whole(steps) or not 0 <= steps <= len(self._done):
            raise NothingToUndo()
        states = [*self._done, self._now]
        return changes(wood, states[-1 - steps][0], self._now[0])

    def trial(self):
        """An object for a block behind which the desk is as it was ahead of it."""
        return Trial(self)

    def supposed(self, gone, come, name):
        """The answers that the wood with a name would have after an exchange."""
        store = exchanged(self._now[0], gone, come, self._rules)
        return answers(self.named(name), store)

    def text(self):
        """The text of the desk: that of its store, and then each name with the texts of the questions of its wood."""
        store, woods = self._now
        blocks = [store.text()] if len(store) > 0 else []
        for name in self.names:
            blocks.append(f"= {name}")
            blocks.extend([f"{question.text()}\n." for question in woods[name]])
        return "\n".join(blocks)


def header_at(lines, start):
    """The index of the first line from a start on that begins with the sign of a name, or the number of lines."""
    for at in range(start, len(lines)):
        if lines[at].startswith("="):
            return at
    return len(lines)


def name_told(lines, at, last):
    """The name that a line tells, which comes behind the last one."""
    name = lines[at][2:]
    if not lines[at].startswith("= ") or not is_name(name) or name <= last:
        raise BadLine(at + 1)
    return name


def question_told(lines, at):
    """The question whose text begins with a line, and the index of the line behind its end."""
    rest = lines[at:]
    many = rest.index(".") if "." in rest else 0
    try:
        question = Question.read("\n".join(rest[:many]))
    except BadText:
        raise BadLine(at + 1) from None
    return question, at + many + 1


def woods_told(lines, start):
    """The woods by their names that the lines of the text of a desk tell from the first name on."""
    woods = {}
    last = ""
    at = start
    while at < len(lines):
        if lines[at].startswith("="):
            last = name_told(lines, at, last)
            woods[last] = ()
            at += 1
        else:
            question, at = question_told(lines, at)
            woods[last] = (*woods[last], question)
    return woods


def read_desk(text, *, rules=()):
    """The desk with a text, which keeps some rules and on which no step has been made."""
    lines = lines_of(text)
    start = header_at(lines, 0)
    facts = facts_told(lines[:start])
    woods = woods_told(lines, start)
    desk = Desk(facts, rules=rules)
    desk._now = (desk.store, woods)
    return desk


def gone_through(desk, rows, name):
    """What rehearsed tells of a list of rows, in a trial of its own."""
    told = []
    with desk.trial():
        for row in rows:
            if isinstance(row, list):
                told.append(gone_through(desk, row, name))
                continue
            first, second = row
            if isinstance(first, str):
                desk.name(first, second)
            else:
                desk.exchange(first, second)
            told.append(desk.answers(name))
    return told


def rehearsed(desk, rows, name):
    """The answers of the wood with a name after each of some rows, which are gone through in a trial."""
    desk.named(name)
    return gone_through(desk, rows, name)
