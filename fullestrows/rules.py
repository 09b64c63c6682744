"""Keys and implications: which stores keep them, and what follows from a lot by them."""

from fullestrows.closing import Body, Book, closed_ground, first_breach, first_pair
from fullestrows.errors import BadKey, BadPattern, BadRule
from fullestrows.facts import MOST_TERMS, filled, is_name, is_pattern, is_whole, store_with, variables_of


def are_places(places, size):
    """Whether a value is a list of different places below a size."""
    return (isinstance(places, (list, tuple))
            and all([is_whole(place) and 0 <= place < size for place in places])
            and len(set(places)) == len(places))


class Key:
    """In the facts of a table with a size, the terms at some places settle the others."""

    def __init__(self, table, size, places):
        if not is_name(table) or not is_whole(size) or not 1 <= size <= MOST_TERMS:
            raise BadKey()
        if not are_places(places, size):
            raise BadKey()
        self._table = table
        self._size = size
        self._places = tuple(sorted(places))
        self._spots = tuple([1 + place for place in self._places])

    @property
    def table(self):
        """The table of the key."""
        return self._table

    @property
    def size(self):
        """The number of terms of the facts that the key is for."""
        return self._size

    @property
    def places(self):
        """The ascending tuple of the places that settle the others."""
        return self._places

    def demand(self):
        """The shape (table, length) of the facts that the key is for, and their items that settle the others."""
        return (self._table, 1 + self._size), self._spots

    def __eq__(self, other):
        return (isinstance(other, Key) and self._table == other._table
                and self._size == other._size and self._places == other._places)


class Rule:
    """An implication: for each map that fits the body, the filled head is a fact, too."""

    def __init__(self, body, head):
        for value in [*body, head]:
            if not is_pattern(value):
                raise BadPattern(value)
        held = variables_of(body)
        if not all([name in held for name in variables_of([head])]):
            raise BadRule()
        self._body = tuple(body)
        self._head = head
        self._ready = None

    @property
    def body(self):
        """The tuple of the patterns of the body, in their order."""
        return self._body

    @property
    def head(self):
        """The head, which is a pattern."""
        return self._head

    def ready_body(self):
        """The body made ready for closing, when it is first asked for."""
        if self._ready is None:
            self._ready = Body(self._body, self._head)
        return self._ready

    def __eq__(self, other):
        return isinstance(other, Rule) and self._body == other._body and self._head == other._head


def breach(rule, groups, held):
    """A list of facts that shows that a rule is broken, or None if it is kept."""
    if isinstance(rule, Rule):
        return first_breach(rule, groups, held)
    pair = first_pair(groups, rule)
    return None if pair is None else list(pair)


def broken(store, rules):
    """The index of the first broken rule and a list of facts that shows it, or None."""
    groups = store.groups()
    for index, rule in enumerate(rules):
        shown = breach(rule, groups, store.held())
        if shown is not None:
            return index, shown
    return None


def keeps(store, rules):
    """Whether a store keeps all rules of a list."""
    return broken(store, rules) is None


def book_of(rules):
    """The rules of a list, made ready for closing."""
    demands = [rule.demand() for rule in rules if isinstance(rule, Key)]
    bodies = [rule.ready_body() for rule in rules if isinstance(rule, Rule)]
    return Book(demands, bodies, (*demands, *[body.told for body in bodies]))


def closed(lot, rules):
    """The ascending patterns of a lot with all that follows by rules, and what became of its variables."""
    ground = closed_ground(lot, book_of(rules))
    return sorted(ground.present), {name: ground.moved.get(name, name) for name in variables_of(lot)}


def store_of(lot, taken=()):
    """The store of a lot in which each variable is replaced by a new constant, and these constants."""
    used = {term: True for pattern in lot for term in pattern[1:]}
    names = {}
    number = 0
    for name in variables_of(lot):
        number += 1
        while f"new{number}" in used or f"new{number}" in taken:
            number += 1
        names[name] = f"new{number}"
    return store_with([filled(pattern, names) for pattern in lot]), names
