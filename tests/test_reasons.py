import itertools
import unittest

from fullestrows.errors import BadNode, NoPart, NotAnAnswer
from fullestrows.facts import Store
from fullestrows.questions import Question
from fullestrows.reasons import clearing, in_the_way, lacking, needed, support, why_not
from small import SHAPES, STORES, some_wood
from test_containment import EMPTY, PEOPLE
from values import (
    ANY_VALUES, dice, given, names_in, shaped_lot, slow_answers, slow_by_part, slow_lot, slow_maps, slow_next,
    slow_parts, some_question,
)

TOWNS = Question.read("person(?x)\n mayor(?y,?z) town(?x,?y)")
STORE = Store([("mayor", "oslo", "eve"), ("person", "ann"), ("person", "bob"), ("town", "ann", "rome"),
               ("town", "bob", "oslo")])
ANN, BOB, EVE = {"?x": "ann"}, {"?x": "bob"}, {"?x": "eve"}
FULL = {"?z": "eve", "?y": "oslo", "?x": "bob"}


def some_case(numbers, most=8):
    """A wood, a store and a map that may be an answer."""
    wood = some_wood(numbers, nodes=3, constants=numbers.choice([("k",), ()]), least=1)
    store = Store(shaped_lot(numbers, numbers.randint(0, most), ["k", "m", "n"], SHAPES))
    tried = slow_answers(wood, store.facts)[:6]
    tried += [{}, *[{name: numbers.choice("kmn") for name in known} for known in tried[:2]]]
    for question in wood:
        for part in slow_parts(question.nodes):
            tried += slow_maps(slow_lot(question.nodes, part), store.facts)[:4]
    return wood, store, numbers.choice(tried)


def part_of_keys(question, known):
    """The part whose variables are just the keys of a map, by going through all parts."""
    for part in slow_parts(question.nodes):
        if names_in(slow_lot(question.nodes, part)) == sorted(known):
            return part
    return None


def slow_faults(wood, facts, known):
    """Point 121 to the letter, but for the maps that are found."""
    found = []
    for question in wood:
        part = part_of_keys(question, known)
        if part is None:
            found.append(("no part",))
            continue
        missing = sorted({given(p, known) for p in slow_lot(question.nodes, part)} - set(facts))
        if missing:
            found.append(("lacks", part, missing))
            continue
        had = [node for node in slow_next(question.nodes, part) if slow_maps(question.nodes[node][1], facts, known)]
        found.append(("fuller", part, had[0]) if had else None)
    return None if None in found else found


class Support(unittest.TestCase):
    """Point 120."""

    def test_support(self):
        self.assertEqual(support([TOWNS], STORE, ANN), [(0, (0,), [("person", "ann")])])
        self.assertEqual(support([PEOPLE, EMPTY, TOWNS], STORE, ANN),
                         [(0, (0,), [("person", "ann")]), (2, (0,), [("person", "ann")])])
        self.assertEqual(support((TOWNS,), STORE, FULL), [(0, (0, 1), [("mayor", "oslo", "eve"), ("person", "bob"),
                                                                       ("town", "bob", "oslo")])])
        self.assertEqual(support([EMPTY], Store(), {}), [(0, (0,), [])])

    def test_each_fact_once(self):
        twice = Question.read("b(?x,?y) b(?y,?x)")
        self.assertEqual(support([twice], Store([("b", "k", "k")]), {"?x": "k", "?y": "k"}), [(0, (0,), [("b", "k", "k")])])

    def test_no_answer(self):
        for known in [BOB, EVE, {}, {"?w": "ann"}, {"?x": "ann", "?y": "rome"}]:
            for function in [support, needed]:
                with self.subTest(known), self.assertRaises(NotAnAnswer) as caught:
                    function([TOWNS], STORE, known)
                self.assertEqual(caught.exception.known, known)
        with self.assertRaises(NotAnAnswer):
            support([], STORE, {})

    def test_by_definition(self):
        numbers = dice(120)
        many = 0
        for _ in range(300):
            wood, store, known = some_case(numbers)
            wanted = []
            for tree, question in enumerate(wood):
                for part, several in slow_by_part(question.nodes, store.facts).items():
                    if known in several:
                        facts = sorted({given(pattern, known) for pattern in slow_lot(question.nodes, part)})
                        wanted.append((tree, part, facts))
            if wanted:
                many += 1
                turned = dict(reversed(list(known.items())))
                self.assertEqual(support(wood, store, turned), wanted)
            else:
                self.assertRaises(NotAnAnswer, support, wood, store, known)
        self.assertGreater(many, 80)


class WhyNot(unittest.TestCase):
    """Point 121."""

    def test_each_kind(self):
        self.assertIsNone(why_not([TOWNS], STORE, ANN))
        self.assertEqual(why_not([TOWNS], STORE, EVE), [("lacks", (0,), [("person", "eve")])])
        self.assertEqual(why_not([TOWNS], STORE, BOB),
                         [("fuller", (0,), 1, {"?x": "bob", "?y": "oslo", "?z": "eve"})])
        self.assertEqual(why_not([TOWNS], STORE, {"?x": "ann", "?y": "rome"}), [("no part",)])
        self.assertEqual(why_not([TOWNS, PEOPLE.renamed({"?x": "?w"}), EMPTY], STORE, BOB), [
            ("fuller", (0,), 1, {"?x": "bob", "?y": "oslo", "?z": "eve"}), ("no part",), ("no part",)])
        self.assertIsNone(why_not([TOWNS, PEOPLE], STORE, BOB))
        self.assertEqual(why_not([], STORE, BOB), [])

    def test_lacking_facts_ascend(self):
        question = Question.read("b(?x,?y) b(?y,?x) c(?x)")
        self.assertEqual(why_not([question], Store(), {"?y": "k", "?x": "k"}),
                         [("lacks", (0,), [("b", "k", "k"), ("c", "k")])])
        self.assertEqual(why_not([question], Store([("b", "k", "m")]), {"?y": "k", "?x": "m"}),
                         [("lacks", (0,), [("b", "m", "k"), ("c", "m")])])

    def test_the_first_next_node_that_can_be_had(self):
        wide = Question.read("a(?x)\n b(?x,?y)\n c(?x,?z)\n d(?x,?u)")
        store = Store([("a", "k"), ("c", "k", "m"), ("d", "k", "n")])
        self.assertEqual(why_not([wide], store, {"?x": "k"}), [("fuller", (0,), 2, {"?x": "k", "?z": "m"})])
        self.assertEqual(why_not([wide], store, {"?x": "k", "?u": "n"}),
                         [("fuller", (0, 3), 2, {"?u": "n", "?x": "k", "?z": "m"})])

    def test_by_definition(self):
        numbers = dice(121)
        seen = {None: 0, "no part": 0, "lacks": 0, "fuller": 0}
        for _ in range(600):
            wood, store, known = some_case(numbers)
            wanted = slow_faults(wood, store.facts, known)
            found = why_not(wood, store, dict(reversed(list(known.items()))))
            if wanted is None:
                self.assertIsNone(found)
                seen[None] += 1
                continue
            self.assertEqual([told[:3] for told in found], wanted)
            for question, told in zip(wood, found):
                seen[told[0]] += 1
                if told[0] == "fuller":
                    self.assertEqual(len(told), 4)
                    self.assertIn(told[3], slow_maps(question.nodes[told[2]][1], store.facts, known))
                    self.assertEqual(list(told[3]), sorted(told[3]))
        self.assertGreater(min(seen.values()), 40)


class Needed(unittest.TestCase):
    """Point 122."""

    def test_needed(self):
        self.assertEqual(needed([TOWNS], STORE, ANN), [("person", "ann")])
        self.assertEqual(needed([TOWNS], STORE, FULL), [("mayor", "oslo", "eve"), ("person", "bob"),
                                                        ("town", "bob", "oslo")])
        self.assertEqual(needed([EMPTY], STORE, {}), [])
        # What another question tells without a fact does not need it.
        two = [Question.read("a(?x)"), Question.read("b(?x)")]
        self.assertEqual(needed(two, Store([("a", "k"), ("b", "k")]), {"?x": "k"}), [])
        self.assertEqual(needed(two, Store([("a", "k"), ("b", "m")]), {"?x": "k"}), [("a", "k")])

    def test_a_question_that_tells_it_only_then(self):
        # Without b(k) the first question does not tell the answer any more, but the second one does.
        wood = [Question.read("a(?x) b(?x)"), Question.read("a(?x)\n b(?x) c(?y)")]
        store = Store([("a", "k"), ("b", "k"), ("c", "m")])
        self.assertEqual(needed(wood, store, {"?x": "k"}), [("a", "k")])

    def test_in_the_way(self):
        self.assertEqual(in_the_way([TOWNS], STORE, BOB), [("mayor", "oslo", "eve"), ("town", "bob", "oslo")])
        self.assertEqual(in_the_way([TOWNS], STORE, ANN), [])
        self.assertEqual(in_the_way([TOWNS], STORE, EVE), [])
        self.assertEqual(in_the_way([], STORE, BOB), [])
        self.assertEqual(in_the_way([TOWNS], STORE, {"?w": "bob"}), [])
        more = STORE + Store([("mayor", "oslo", "ann")])
        self.assertEqual(in_the_way([TOWNS], more, BOB), [("town", "bob", "oslo")])
        self.assertEqual(in_the_way([TOWNS], more + Store([("town", "bob", "rome"), ("mayor", "rome", "bob")]), BOB), [])

    def test_by_definition(self):
        numbers = dice(122)
        seen = {"needed": 0, "in the way": 0}
        for _ in range(1500):
            wood, store, known = some_case(numbers, 10)
            without = {fact: [other for other in store.facts if other != fact] for fact in store.facts}
            turned = dict(reversed(list(known.items())))
            if known in slow_answers(wood, store.facts):
                wanted = [fact for fact in store.facts if known not in slow_answers(wood, without[fact])]
                self.assertEqual(needed(wood, store, turned), wanted)
                self.assertEqual(in_the_way(wood, store, turned), [])
                seen["needed"] += len(wanted)
            else:
                wanted = [fact for fact in store.facts if known in slow_answers(wood, without[fact])]
                self.assertEqual(in_the_way(wood, store, turned), wanted)
                seen["in the way"] += len(wanted)
        self.assertGreater(min(seen.values()), 40)


class Clearing(unittest.TestCase):
    """Point 123."""

    def test_clearing(self):
        self.assertIn(clearing([TOWNS], STORE, BOB), [[("mayor", "oslo", "eve")], [("town", "bob", "oslo")]])
        self.assertEqual(clearing([TOWNS], STORE, ANN), [])
        self.assertIsNone(clearing([TOWNS], STORE, EVE))
        self.assertIsNone(clearing([TOWNS], STORE, {"?w": "ann"}))
        self.assertIsNone(clearing([], STORE, ANN))
        self.assertEqual(clearing([EMPTY], STORE, {}), [])
        self.assertEqual(clearing([TOWNS, PEOPLE], STORE, BOB), [])

    def test_the_shortest_list(self):
        towns = Question.read("person(?x)\n town(?x,?y)\n age(?x,?z)")
        store = Store([("age", "bob", "a1"), ("age", "bob", "a2"), ("person", "bob"), ("town", "bob", "oslo"),
                       ("town", "bob", "rome")])
        self.assertEqual(clearing([towns], store, BOB), [fact for fact in store if fact[0] != "person"])
        self.assertEqual(clearing([towns, Question.read("person(?x)\n town(?x,?y)")], store, BOB),
                         [("town", "bob", "oslo"), ("town", "bob", "rome")])
        # One fact that all ways need is better than one of each way.
        both = Question.read("person(?x)\n mayor(?y,?z) town(?x,?y)")
        many = Store([("person", "bob"), ("town", "bob", "oslo"), *[("mayor", "oslo", f"m{at}") for at in range(9)]])
        self.assertEqual(clearing([both], many, BOB), [("town", "bob", "oslo")])

    def test_facts_that_must_stay(self):
        self.assertIsNone(clearing([Question.read("a(?x)\n a(?y)")], Store([("a", "k"), ("a", "m")]), {"?x": "k"}))
        friends = Question.read("b(?x,?y)\n b(?y,?z)")
        self.assertIsNone(clearing([friends], Store([("b", "k", "k")]), {"?x": "k", "?y": "k"}))
        self.assertEqual(clearing([friends], Store([("b", "k", "m"), ("b", "m", "k"), ("b", "m", "n")]),
                                  {"?x": "k", "?y": "m"}), [("b", "m", "k"), ("b", "m", "n")])

    def test_by_definition(self):
        numbers = dice(123)
        lengths = {}
        for _ in range(900):
            wood, store, known = some_case(numbers, 10)
            shortest = None
            for size in range(len(store) + 1):
                fit = [list(gone) for gone in itertools.combinations(store.facts, size)
                       if known in slow_answers(wood, [fact for fact in store.facts if fact not in gone])]
                if fit:
                    shortest = fit
                    break
            found = clearing(wood, store, dict(reversed(list(known.items()))))
            if shortest is None:
                self.assertIsNone(found)
            else:
                self.assertIn(found, shortest)
            lengths[None if found is None else len(found)] = 1
        self.assertLessEqual({None, 0, 1, 2}, set(lengths))

    def test_facts_of_the_part_in_a_way(self):
        # The pattern a(?x) is asked for again, but a(k) must stay.
        again = Question.read("a(?x)\n a(?x) b(?x,?y)")
        store = Store([("a", "k"), ("b", "k", "m"), ("b", "k", "n")])
        self.assertEqual(clearing([again], store, {"?x": "k"}), [("b", "k", "m"), ("b", "k", "n")])

    def test_many_ways(self):
        numbers = dice(127)
        lengths = {}
        lots = [[("e", "?a", "?b"), ("e", "?b", "?c")], [("e", "?a", "?b"), ("e", "?b", "?c"), ("e", "?c", "?a")],
                [("e", "?a", "?b"), ("e", "?b", "?c"), ("e", "?c", "?d")], [("e", "?a", "?b"), ("e", "?c", "?b"),
                                                                             ("f", "?b", "?c")]]
        for _ in range(150):
            nodes = [(None, []), (0, numbers.choice(lots)), (0, [("e", "?x", "?x")])]
            facts = sorted(set(shaped_lot(numbers, 14, list("kmno"), (("e", 2), ("e", 2), ("e", 2), ("f", 2)))))
            ways = [{given(p, known) for p in lot} for _, lot in nodes[1:] for known in slow_maps(lot, facts)]
            fit = next(fit for fit in ([set(gone) for gone in itertools.combinations(facts, size)
                                        if all(way & set(gone) for way in ways)] for size in range(20)) if fit)
            found = clearing([Question(nodes)], Store(facts), {})
            self.assertIn(set(found), fit)
            self.assertEqual(found, sorted(found))
            lengths[len(found)] = 1
        self.assertGreater(len(lengths), 4)

    def test_twenty_facts(self):
        facts = [("e", f"v{one}", f"v{other}") for one in range(5) for other in range(5) if one != other]
        lots = {8: [("e", "?a", "?b"), ("e", "?b", "?c"), ("e", "?c", "?a")],
                14: [("e", "?a", "?b"), ("e", "?b", "?c")],
                10: [("e", f"?a{at}", f"?a{at + 1}") for at in range(15)]}
        for many, lot in lots.items():
            found = clearing([Question([(None, []), (0, lot)])], Store(facts), {})
            self.assertEqual(len(found), many)
        # One way needs no fact but such as must stay, and there are many other ways.
        hopeless = Question([(None, [("e", "v0", "v1")]), (0, [("e", f"?a{at}", f"?b{at}") for at in range(5)])])
        self.assertIsNone(clearing([hopeless], Store(facts), {}))


def fewest(lot, store, known):
    """The fewest facts that can be missing, by trying all constants, also such as occur nowhere."""
    free = [name for name in names_in(lot) if name not in known]
    terms = {term for pattern in [*lot, *store.facts] for term in pattern[1:] if term[0] != "?"}
    terms |= set(known.values()) | {f"c{at}" for at in range(len(free))}
    return min(len({given(p, {**known, **dict(zip(free, chosen))}) for p in lot} - set(store.facts))
               for chosen in itertools.product(sorted(terms), repeat=len(free)))


class Lacking(unittest.TestCase):
    """Point 124."""

    def check(self, question, store, known, node, many):
        found, facts = lacking(question, store, known, node)
        lot = question.nodes[node][1]
        self.assertEqual(len(facts), many)
        self.assertEqual(facts, sorted({given(pattern, found) for pattern in lot} - set(store.facts)))
        self.assertEqual(list(found), sorted({*known, *names_in(lot)}))
        self.assertLessEqual(known.items(), found.items())
        self.assertTrue(all(term[0] != "?" for term in found.values()))

    def test_lacking(self):
        self.check(TOWNS, STORE, ANN, 1, 1)
        self.check(TOWNS, STORE, BOB, 1, 0)
        self.assertEqual(lacking(TOWNS, STORE, BOB, 1), ({"?x": "bob", "?y": "oslo", "?z": "eve"}, []))
        self.check(TOWNS, Store([("person", "ann")]), ANN, 1, 2)

    def test_no_constant_of_the_store_fills_best(self):
        # The constant k is only in the question: with it, the two patterns are the same fact.
        question = Question.read("a(?x)\n b(?x,?y) b(?x,k)")
        self.check(question, Store([("a", "m")]), {"?x": "m"}, 1, 1)
        self.assertEqual(lacking(question, Store([("a", "m")]), {"?x": "m"}, 1)[0], {"?x": "m", "?y": "k"})
        self.check(question, Store([("a", "m"), ("b", "m", "n")]), {"?x": "m"}, 1, 1)
        self.check(question, Store([("a", "m"), ("b", "m", "k")]), {"?x": "m"}, 1, 0)

    def test_patterns_that_become_one(self):
        question = Question([(None, []), (0, [("b", "?u", "?v"), ("b", "?v", "?w"), ("b", "?w", "?u")])])
        self.check(question, Store(), {}, 1, 1)
        self.check(question, Store([("b", "k", "m")]), {}, 1, 1)
        self.check(question, Store([("b", "k", "m"), ("b", "m", "n")]), {}, 1, 1)
        two = Question([(None, []), (0, [("b", "?u", "k"), ("b", "?v", "m"), ("b", "?u", "?v")])])
        self.check(two, Store(), {}, 1, 2)
        self.check(two, Store([("halt",)]), {}, 1, 2)
        sizes = Question([(None, []), (0, [("b", "?u"), ("b", "?u", "?v"), ("b",), ("c", "?v", "?u")])])
        self.check(sizes, Store(), {}, 1, 4)
        self.check(Question([(None, []), (0, [("b", "?u"), ("b", "?u", "?v"), ("b", "?u", "?w")])]), Store(), {}, 1, 2)
        self.check(sizes, Store([("b",), ("b", "k")]), {}, 1, 2)

    def test_a_store_without_constants(self):
        question = Question([(None, [("halt",)]), (0, [("b", "?u", "?v"), ("c", "?v")])])
        self.check(question, Store([("halt",)]), {}, 1, 2)

    def test_errors(self):
        for known in [EVE, {}, {"?w": "ann"}, {"?x": "ann", "?y": "rome"}, {**FULL, "?w": "k"}]:
            for node in [1, 0, None]:
                with self.subTest(known), self.assertRaises(NoPart) as caught:
                    lacking(TOWNS, STORE, known, node)
                self.assertEqual(caught.exception.known, known)
        for node in [value for value in ANY_VALUES if value != 1 or value is True] + [-1, "1", (1,), [1]]:
            with self.subTest(node), self.assertRaises(BadNode) as caught:
                lacking(TOWNS, STORE, ANN, node)
            self.assertIs(caught.exception.index, node)
        with self.assertRaises(BadNode) as caught:
            lacking(TOWNS, STORE, FULL, 1)
        self.assertEqual(caught.exception.index, 1)

    def test_by_definition(self):
        numbers = dice(124)
        seen = {}
        shapes = (("a", 1), ("b", 2), ("b", 2), ("c", 3))
        while min([seen.get(many, 0) for many in range(4)]) < 15:
            root = shaped_lot(numbers, numbers.randint(0, 1), ["?x", "?y"], shapes)
            lot = shaped_lot(numbers, numbers.randint(1, 4), ["?x", "?y", "?u", "?v", "?w", "k"], shapes)
            lot = [pattern for pattern in lot if not {"?x", "?y"} & set(pattern) - set(names_in(root))]
            if len(names_in(lot)) > 4 or not set(names_in(lot)) - set(names_in(root)):
                continue
            question = Question([(None, root), (0, lot)])
            facts = shaped_lot(numbers, numbers.randint(0, 7), ["k", "m", "n"], shapes)
            store = Store([*facts, *[given(p, {"?x": "m", "?y": "n"}) for p in root]])
            for known in slow_maps(root, store.facts)[:2]:
                many = fewest(lot, store, known)
                self.check(question, store, known, 1, many)
                seen[many] = seen.get(many, 0) + 1

    def test_at_the_limits(self):
        lot = [("t", "?a", "?b", "?c"), ("t", "?c", "?d", "?e"), ("u", "?e", "?f", "?g"), ("t", "?h", "?h", "?a")]
        numbers = dice(125)
        store = Store([("t", *numbers.choices("kmnopq", k=3)) for _ in range(60)])
        self.check(Question([(None, []), (0, lot)]), store, {}, 1, 1)

    def test_nodes_of_any_question(self):
        numbers = dice(126)
        for _ in range(200):
            question = some_question(numbers, 4, constants=("k",))
            store = numbers.choice(STORES)
            for part in slow_parts(question.nodes):
                for known in slow_maps(slow_lot(question.nodes, part), store.facts)[:1]:
                    for node in slow_next(question.nodes, part):
                        lot = question.nodes[node][1]
                        self.check(question, store, known, node, fewest(lot, store, known))


if __name__ == "__main__":
    unittest.main()
