"""A small world with few tables and constants, slow ways in it, and values that are nearly right."""

import itertools

from fullestrows.facts import Store
from fullestrows.questions import Question
from fullestrows.rules import Key, Rule
from values import ANY_VALUES, given, names_in, shaped_lot, slow_answers, slow_maps, some_question

SHAPES = (("a", 1), ("b", 2), ("b", 2))
FACTS = [("a", one) for one in "km"] + [("b", one, other) for one in "km" for other in "km"]
# All stores with the tables a and b and the constants k and m.
STORES = [Store(facts) for size in range(len(FACTS) + 1) for facts in itertools.combinations(FACTS, size)]


def slow_keeps(facts, rules):
    """Whether facts keep rules, by the definition alone."""
    for rule in rules:
        if isinstance(rule, Key):
            rows = [fact for fact in facts if fact[0] == rule.table and len(fact) == rule.size + 1]
            if any(one != other and all(one[at + 1] == other[at + 1] for at in rule.places)
                   for one in rows for other in rows):
                return False
        elif any(given(rule.head, known) not in facts for known in slow_maps(rule.body, facts)):
            return False
    return True


def some_implication(numbers, shapes=SHAPES):
    """An implication."""
    body = shaped_lot(numbers, numbers.randint(1, 2), ["?p", "?q", "?u", "k"], shapes)
    return Rule(body, shaped_lot(numbers, 1, [*names_in(body), numbers.choice("km")], shapes)[0])


def some_rules(numbers, most=2, shapes=SHAPES):
    """Some keys and implications, often none."""
    rules = []
    for _ in range(numbers.choice([0, 0, *range(1, most + 1)])):
        if numbers.random() < 0.4:
            rules.append(Key("b", 2, numbers.choice([[0], [1], []])))
        else:
            rules.append(some_implication(numbers, shapes))
    return rules


def some_wood(numbers, most=2, nodes=3, constants=("k", "m"), least=0):
    """A wood of some questions that have few nodes."""
    return [some_question(numbers, numbers.randint(1, nodes), constants, numbers.random() < 0.85, SHAPES)
            for _ in range(numbers.randint(least, most))]


def changed_question(numbers, question):
    """A question that is nearly the same: a pattern more, or a node or a pattern less, or another order."""
    nodes = question.nodes
    kind = numbers.randrange(4)
    at = numbers.randrange(len(nodes))
    parent, lot = nodes[at]
    if kind == 0 and names_in(lot):
        nodes[at] = (parent, [*lot, *shaped_lot(numbers, 1, [*names_in(lot), "k"], SHAPES)])
    elif kind == 1 and len(lot) > 1:
        nodes[at] = (parent, lot[:-1])
    elif kind == 2 and len(nodes) > 1:
        beneath = {at for at in range(len(nodes)) if nodes[at][0] == len(nodes) - 1}
        nodes = nodes[:-1] if not beneath else nodes
    elif kind == 3 and len(nodes) == 3 and nodes[2][0] == 0:
        nodes = [nodes[0], nodes[2], nodes[1]]
    try:
        return Question(nodes)
    except ValueError:
        return question


def changed_wood(numbers, wood):
    """A wood that is nearly the same."""
    found = [changed_question(numbers, question) if numbers.random() < 0.7 else question for question in wood]
    if numbers.random() < 0.2:
        found = found[1:]
    if numbers.random() < 0.3:
        found += some_wood(numbers, 1)
    numbers.shuffle(found)
    return found


class Answered:
    """The answers of woods in stores by the definition alone, each reckoned once."""

    def __init__(self):
        self.held = {}

    def of(self, wood, store):
        found = {}
        for question in wood:
            key = (question.text(), tuple(question.nodes[at][0] for at in range(len(question))), store.facts)
            if key not in self.held:
                self.held[key] = slow_answers([question], store.facts)
            for known in self.held[key]:
                found[tuple(known.items())] = known
        return list(found.values())


def canonical(value):
    """Values of all kinds, such that equal ones are the same in kind, too; the order of keys means nothing."""
    if isinstance(value, dict):
        return "dict", sorted([(repr(canonical(key)), canonical(item)) for key, item in value.items()])
    if isinstance(value, (list, tuple)):
        return value.__class__.__name__, [canonical(item) for item in value]
    return value.__class__.__name__, value


def near(value):
    """Values that differ from a value in one place, which are not lists that became tuples."""
    if isinstance(value, tuple):
        yield list(value)
    if isinstance(value, (list, tuple)):
        make = value.__class__
        for at, item in enumerate(value):
            yield make([*value[:at], *value[at + 1:]])
            yield make([*value[:at], item, item, *value[at + 1:]])
            for other in near(item):
                yield make([*value[:at], other, *value[at + 1:]])
        yield make([*value, None])
        yield make(reversed(value))
    elif isinstance(value, dict):
        for key, item in value.items():
            yield {name: held for name, held in value.items() if name != key}
            for other in near(item):
                yield {**value, key: other}
            if isinstance(key, tuple):
                for other in near(key):
                    if not isinstance(other, list) and is_fit(other):
                        yield {**{name: held for name, held in value.items() if name != key}, other: item}
        yield {**value, None: None}
        yield list(value.items())
    elif isinstance(value, int):
        yield from [value + 1, value - 1, str(value), None, (value,)]
        if value in (0, 1):
            yield bool(value)
    elif isinstance(value, str):
        yield from [value + "x", value[:-1], value.upper(), "k", "?new1", (value,), None, 0]
    else:
        yield from [0, "", []]


def is_fit(value):
    """Whether a value may be a key."""
    return not isinstance(value, (list, dict)) and (not isinstance(value, tuple) or all(is_fit(one) for one in value))


def odd_values(value):
    """Any values: those of every kind, and those near a right one."""
    return [*ANY_VALUES, *near(value)]
