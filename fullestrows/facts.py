"""Names, variables, patterns and facts, and the stores that hold facts."""

from fullestrows.errors import BadFact, BadLine

LONGEST_NAME = 12
MOST_TERMS = 3


def is_whole(value):
    """Whether a value is an integer; True and False are none here."""
    return isinstance(value, int) and not isinstance(value, bool)


def is_name(value):
    """Whether a value is a name."""
    return (isinstance(value, str) and value.isascii() and value.isalnum() and value.islower()
            and value[0].isalpha() and len(value) <= LONGEST_NAME)


def is_variable(value):
    """Whether a value is a variable."""
    return isinstance(value, str) and value.startswith("?") and is_name(value[1:])


def is_pattern(value):
    """Whether a value is a pattern."""
    if not isinstance(value, tuple) or not 1 <= len(value) <= 1 + MOST_TERMS:
        return False
    for term in value[1:]:
        if not is_name(term) and not is_variable(term):
            return False
    return is_name(value[0])


def is_fact(value):
    """Whether a value is a fact, which is a pattern without variables."""
    if not isinstance(value, tuple) or not 1 <= len(value) <= 1 + MOST_TERMS:
        return False
    for term in value:
        if not is_name(term):
            return False
    return True


def is_free(term):
    """Whether a term is a variable; for terms only, where one look at the sign is enough."""
    return term.startswith("?")


def variables_of(lot):
    """The ascending list of the variables in a lot, each once."""
    return sorted({term for pattern in lot for term in pattern[1:] if term[0] == "?"})


def filled(pattern, known):
    """The pattern with each variable that is a key of known replaced by its value."""
    return tuple([known.get(term, term) for term in pattern])


def by_shape(facts):
    """A dict from the shapes (table, length) of some facts or patterns to the list of those that have it."""
    groups = {}
    for fact in facts:
        groups.setdefault((fact[0], len(fact)), []).append(fact)
    return groups


def pattern_text(pattern):
    """The text of a pattern, such as age(?x,a30)."""
    terms = ",".join(pattern[1:])
    return f"{pattern[0]}({terms})"


def read_pattern(text):
    """The pattern with a text, or None if the string is not the text of a pattern."""
    table, _, rest = text.partition("(")
    inner = rest.removesuffix(")")
    terms = inner.split(",") if inner else []
    pattern = (table, *terms)
    # Only the way back tells whether the brackets are as they should be.
    if is_pattern(pattern) and pattern_text(pattern) == text:
        return pattern
    return None


def lines_of(text):
    """The lines of a text; the empty text has none."""
    return text.split("\n") if text else []


def facts_told(lines):
    """The facts that the lines of the text of a store tell, in ascending order."""
    facts = []
    for number, line in enumerate(lines, start=1):
        fact = read_pattern(line)
        if not is_fact(fact) or (facts and fact <= facts[-1]):
            raise BadLine(number)
        facts.append(fact)
    return facts


def store_with(facts):
    """The store with some facts, which need not be looked at as they are known to be facts."""
    store = Store()
    store._facts = tuple(sorted(set(facts)))
    store._held = {fact: True for fact in store._facts}
    return store


class Store:
    """A set of facts that never changes."""

    def __init__(self, facts=()):
        for value in facts:
            if not is_fact(value):
                raise BadFact(value)
        self._facts = tuple(sorted(set(facts)))
        self._held = {fact: True for fact in self._facts}
        self._groups = None

    @property
    def facts(self):
        """The ascending tuple of the facts, each once."""
        return self._facts

    def __len__(self):
        return len(self._facts)

    def __iter__(self):
        return iter(self._facts)

    def __contains__(self, value):
        # A value that is no fact need not be fit to be a key.
        return is_fact(value) and value in self._held

    def groups(self):
        """The facts by their shapes, as by_shape tells them; the package itself only looks at them.

        They are made when they are first asked for, as an operator, which makes a store, must not make them.
        """
        if self._groups is None:
            self._groups = by_shape(self._facts)
        return self._groups

    def held(self):
        """A dict whose keys are the facts; the package itself only looks at it, with patterns."""
        return self._held

    def __eq__(self, other):
        return isinstance(other, Store) and self._facts == other._facts

    def __add__(self, other):
        if not isinstance(other, Store):
            return NotImplemented
        return Store([*self._facts, *other._facts])

    def __sub__(self, other):
        if not isinstance(other, Store):
            return NotImplemented
        return Store([fact for fact in self._facts if fact not in other._held])

    def within(self, other):
        """Whether all facts of this store are in the other one."""
        return all([fact in other for fact in self._facts])

    def constants(self):
        """The ascending list of the constants in the facts, each once."""
        return sorted({term for fact in self._facts for term in fact[1:]})

    def only(self, tables):
        """The store of the facts whose table is in a list of names."""
        return Store([fact for fact in self._facts if fact[0] in tables])

    def text(self):
        """The text of the store: a line for each fact, in ascending order."""
        return "\n".join([pattern_text(fact) for fact in self._facts])

    @classmethod
    def read(cls, text):
        """The store with a text."""
        return cls(facts_told(lines_of(text)))
