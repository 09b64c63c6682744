"""Values and slow ways of reckoning that several tests share."""

import itertools
import random

from fullestrows.errors import Clash
from fullestrows.questions import Question
from fullestrows.rules import Key

# One value of each kind that "any value" may be, and such as are nearly right.
ANY_VALUES = [
    None, True, False, 0, 1, -1, 2, "", "a", "?a", "a b", [], ["a"], [["a"]], (), ("?a",), ("a", 1), ("a", None),
    ("a", True), ("a", ["b"]), ("a", ("b",)), (("a",),), ("a", "b", "c", "d", "e"), {}, {"a": "b"}, {"?x": "a"},
]


# Shapes of patterns: a table and a number of terms.
SHAPES = (("a", 1), ("b", 2), ("b", 2), ("c", 2))


def given(pattern, known):
    """The pattern filled by a dict, in the plainest way."""
    return tuple(known[term] if term in known else term for term in pattern)


def names_in(lot):
    """The variables of a lot, in ascending order."""
    return sorted({term for pattern in lot for term in pattern[1:] if term[0] == "?"})


def slow_maps(lot, facts, known=None):
    """All dicts above known that lead a lot to facts, in ascending order, by trying everything."""
    start = known or {}
    free = [name for name in names_in(lot) if name not in start]
    terms = sorted({term for fact in facts for term in fact[1:]})
    found = []
    for chosen in itertools.product(terms, repeat=len(free)):
        whole = {**start, **dict(zip(free, chosen))}
        if all(given(pattern, whole) in facts for pattern in lot):
            found.append(sorted(whole.items()))
    return [dict(pairs) for pairs in sorted(found)]


def some_lot(dice, size, terms, tables=("a", "b")):
    """A lot of some patterns with the given terms; equal dice give equal lots."""
    return [(dice.choice(tables), *[dice.choice(terms) for _ in range(dice.randint(0, 3))]) for _ in range(size)]


def shaped_lot(dice, size, terms, shapes=SHAPES):
    """A lot of some patterns of few shapes (table, number of terms), so that they often fit each other."""
    chosen = [dice.choice(shapes) for _ in range(size)]
    return [(table, *[dice.choice(terms) for _ in range(many)]) for table, many in chosen]


def some_question(dice, size, constants=("k",), root=True, shapes=SHAPES):
    """A question with some nodes; each takes variables of its parent only and has a new one."""
    nodes = []
    names = []
    for at in range(size):
        parent = dice.randrange(at) if at else None
        # What is new beneath a node may come ahead of its own variables.
        new = "?" + "qprotsuvwxyz"[at]
        terms = [new, *(names[parent] if at else []), *constants]
        lot = shaped_lot(dice, dice.randint(0, 2) if at else dice.randint(0, 1), terms, shapes)
        if at or root:
            lot.append(("b", *dice.sample([new, dice.choice(terms)], 2)))
        nodes.append((parent, lot))
        names.append(names_in(lot))
    return Question(nodes)


def slow_parts(nodes):
    """All parts of the nodes of a question, by trying all sets of nodes."""
    found = []
    for size in range(1, len(nodes) + 1):
        for part in itertools.combinations(range(len(nodes)), size):
            if 0 in part and all(node == 0 or nodes[node][0] in part for node in part):
                found.append(part)
    return sorted(found)


def slow_next(nodes, part):
    """The next nodes of a part."""
    return [node for node in range(1, len(nodes)) if node not in part and nodes[node][0] in part]


def slow_lot(nodes, part):
    """The patterns of a part."""
    return [pattern for node in part for pattern in nodes[node][1]]


def slow_by_part(nodes, facts):
    """The answers for each part, by the definition alone."""
    found = {}
    for part in slow_parts(nodes):
        beneath = [nodes[node][1] for node in slow_next(nodes, part)]
        found[part] = [known for known in slow_maps(slow_lot(nodes, part), facts)
                       if not any(slow_maps(lot, facts, known) for lot in beneath)]
    return found


def sorted_maps(several):
    """Dicts in ascending order, each once."""
    return [dict(pairs) for pairs in sorted({tuple(sorted(known.items())) for known in several})]


def slow_answers(wood, facts):
    """The answers of a wood, by the definition alone."""
    return sorted_maps([known for question in wood for several in slow_by_part(question.nodes, facts).values()
                        for known in several])


def told(several):
    """Dicts as lists of pairs, so that the order of their keys counts."""
    return [list(known.items()) for known in several]


def exchanges(lot, key):
    """The pairs of terms that a key makes equal in a lot."""
    rows = [pattern for pattern in lot if pattern[0] == key.table and len(pattern) == key.size + 1]
    for one, other in itertools.combinations(rows, 2):
        if all(one[place + 1] == other[place + 1] for place in key.places):
            yield from [(low, high) for low, high in zip(one, other) if low != high]


def one_step(lot, terms, step):
    """The lot and the terms after one step of point 32."""
    if step[0] == "head":
        return lot | {step[1]}, terms
    low, high = sorted(step[1])
    if low[0] != "?":
        raise Clash()
    kept, gone = (low, high) if high[0] == "?" else (high, low)
    return ({given(pattern, {gone: kept}) for pattern in lot},
            {name: kept if term == gone else term for name, term in terms.items()})


def slow_closed(lot, rules, numbers):
    """Point 32 to the letter, one step at a time, in any order."""
    lot, terms = set(lot), {name: name for name in names_in(lot)}
    while True:
        steps = []
        for rule in rules:
            if isinstance(rule, Key):
                steps += [("same", pair) for pair in exchanges(sorted(lot), rule)]
            else:
                heads = [given(rule.head, found) for found in slow_maps(rule.body, lot)]
                steps += [("head", head) for head in heads if head not in lot]
        if not steps:
            return sorted(lot), terms
        lot, terms = one_step(lot, terms, numbers.choice(steps))


def dice(seed):
    """A row of numbers that is the same in each run."""
    return random.Random(seed)
