"""The errors of the package: each one is a class directly below RowsError."""


class RowsError(ValueError):
    """The base class of all errors of this package."""


class BadFact(RowsError):
    """A value stands where a fact is wanted, and is none."""

    def __init__(self, value):
        self.value = value


class BadPattern(RowsError):
    """A value stands where a pattern is wanted, and is none."""

    def __init__(self, value):
        self.value = value


class BadLine(RowsError):
    """The line with this number, counted from 1, is wrong."""

    def __init__(self, line):
        self.line = line


class BadText(RowsError):
    """A string is not the text of what is to be read."""


class BadKey(RowsError):
    """The table, size and places tell no key."""


class BadRule(RowsError):
    """The head of an implication has a variable that its body has not."""


class Clash(RowsError):
    """Two different constants would have to be the same."""


class Broken(RowsError):
    """The rule with this index is broken, and the facts shown tell how."""

    def __init__(self, index, shown):
        self.index = index
        self.shown = shown


class BadNodes(RowsError):
    """A list does not tell the nodes of a tree."""


class Loose(RowsError):
    """The places of a variable do not hang together."""

    def __init__(self, variable):
        self.variable = variable


class NothingNew(RowsError):
    """The node with this index has no new variable."""

    def __init__(self, index):
        self.index = index


class BadNode(RowsError):
    """A value is not the number of a node that may be taken here."""

    def __init__(self, index):
        self.index = index


class BadPart(RowsError):
    """A value is not a part of the question."""

    def __init__(self, part):
        self.part = part


class NoPart(RowsError):
    """A map does not fit a part that has just its keys as variables."""

    def __init__(self, known):
        self.known = known


class BadNames(RowsError):
    """A value does not tell how to rename the variables of a question."""


class OrBelow(RowsError):
    """The second form of an opt contains an or."""


class BadStrike(RowsError):
    """A value is none of the strikes of a wood."""

    def __init__(self, value):
        self.value = value


class NotAnAnswer(RowsError):
    """A map is not an answer of the wood in the store."""

    def __init__(self, known):
        self.known = known


class BadQuestion(RowsError):
    """A value stands where a question is wanted, and is none."""

    def __init__(self, value):
        self.value = value


class NoName(RowsError):
    """A value is not a name that may be taken here."""

    def __init__(self, value):
        self.value = value


class NotThere(RowsError):
    """A value is to be taken out of a store that does not have it."""

    def __init__(self, fact):
        self.fact = fact


class ThereAlready(RowsError):
    """A fact is to be put into a store that has it already."""

    def __init__(self, fact):
        self.fact = fact


class NothingToUndo(RowsError):
    """There is no step that could be taken back."""


class NothingToRedo(RowsError):
    """There is no step that could be made again."""
