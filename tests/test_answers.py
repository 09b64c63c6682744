import inspect
import itertools
import unittest

from fullestrows.answers import answers, by_part, changes, each_answer, fullest, is_answer, lost, tellers
from fullestrows.errors import NoPart
from fullestrows.facts import Store
from fullestrows.questions import Question
from values import (
    dice, given, shaped_lot, slow_answers, slow_by_part, slow_lot, slow_maps, some_question, sorted_maps, told,
)

TOWNS = Question.read("person(?x)\n town(?x,?y)\n  mayor(?y,?z)")
STORE = Store([("person", "ann"), ("person", "bob"), ("town", "bob", "oslo"), ("town", "eve", "rome")])
ANN, BOB = {"?x": "ann"}, {"?x": "bob", "?y": "oslo"}


def some_store(numbers, size, terms=("k", "l", "m")):
    """A store of some facts."""
    return Store(shaped_lot(numbers, size, terms))


def some_case(numbers):
    """A wood and a store."""
    wood = [some_question(numbers, numbers.randint(1, 3), root=numbers.random() < 0.8)
            for _ in range(numbers.randint(0, 2))]
    return wood, some_store(numbers, numbers.randint(0, 16))


class Answers(unittest.TestCase):
    """Points 5 and 50."""

    def test_answers(self):
        self.assertEqual(told(answers([TOWNS], STORE)), [[("?x", "ann")], [("?x", "bob"), ("?y", "oslo")]])
        self.assertEqual(answers([TOWNS], STORE + Store([("mayor", "oslo", "eve")])), [ANN, {**BOB, "?z": "eve"}])

    def test_first_node_is_not_missing(self):
        self.assertEqual(answers([TOWNS], Store([("town", "bob", "oslo"), ("mayor", "oslo", "eve")])), [])
        self.assertEqual(answers([TOWNS], Store()), [])

    def test_one_node(self):
        question = Question([(None, [("town", "?x", "?y"), ("person", "?x")])])
        self.assertEqual(answers([question], STORE), [BOB])
        self.assertEqual(answers([Question([(None, [("halt",)])])], Store([("halt",)])), [{}])
        self.assertEqual(answers([Question([(None, [("halt",)])])], STORE), [])

    def test_first_node_without_patterns(self):
        self.assertEqual(answers([Question([(None, [])])], Store()), [{}])
        question = Question([(None, []), (0, [("person", "?x")])])
        self.assertEqual(answers([question], Store()), [{}])
        self.assertEqual(answers([question], STORE), [ANN, {"?x": "bob"}])

    def test_several_next_nodes(self):
        question = Question.read("person(?x)\n age(?x,?a)\n mail(?x,?m)\n  host(?m,?h)\n town(?x,?y)")
        store = Store([("age", "ann", "a30"), ("age", "ann", "a40"), ("mail", "ann", "box1"), ("mail", "ann", "box2"),
                       ("host", "box2", "far"), ("person", "ann"), ("person", "bob"), ("town", "bob", "oslo")])
        self.assertEqual(told(answers([question], store)), [
            [("?a", "a30"), ("?h", "far"), ("?m", "box2"), ("?x", "ann")],
            [("?a", "a30"), ("?m", "box1"), ("?x", "ann")],
            [("?a", "a40"), ("?h", "far"), ("?m", "box2"), ("?x", "ann")],
            [("?a", "a40"), ("?m", "box1"), ("?x", "ann")],
            [("?x", "bob"), ("?y", "oslo")]])

    def test_a_node_needs_all_its_patterns(self):
        question = Question.read("person(?x)\n mayor(?y,?z) town(?x,?y)")
        self.assertEqual(answers([question], STORE), [ANN, {"?x": "bob"}])

    def test_woods(self):
        people = Question.read("person(?x)")
        self.assertEqual(answers([TOWNS, people], STORE), [ANN, {"?x": "bob"}, BOB])
        self.assertEqual(answers([people, TOWNS, people], STORE), [ANN, {"?x": "bob"}, BOB])
        self.assertEqual(answers((people,), STORE), [ANN, {"?x": "bob"}])

    def test_wood_without_questions(self):
        self.assertEqual([answers([], STORE), list(each_answer([], STORE)), tellers([], STORE, {})], [[], [], []])
        self.assertEqual([is_answer([], STORE, {}), lost([], STORE, Store()), changes([], STORE, Store())],
                         [False, [], ([], [])])

    def test_each_answer_is_a_generator(self):
        self.assertTrue(inspect.isgenerator(each_answer([TOWNS], STORE)))
        self.assertEqual(next(each_answer([TOWNS], STORE)).keys(), {"?x"})

    def test_each_answer_goes_on_with_what_was_passed(self):
        wood = [TOWNS, Question.read("town(?x,?y)")]
        steps = each_answer(wood, STORE)
        first = next(steps)
        wood.clear()
        first.clear()
        self.assertEqual(len(list(steps)), 2)

    def test_each_answer_comes_at_once(self):
        # There are 50 ** 15 answers, so they must not all be listed ahead.
        root = [("e", f"?a{at}") for at in range(5)]
        nodes = [(None, root), *[(0, [("e", f"?b{at}"), ("e", f"?c{at}")]) for at in range(5)]]
        store = Store([("e", f"v{at}") for at in range(50)])
        first = list(itertools.islice(each_answer([Question(nodes)] * 2, store), 20))
        self.assertEqual(len(sorted_maps(first)), 20)
        self.assertTrue(all(len(known) == 15 for known in first))

    def test_by_definition(self):
        numbers = dice(50)
        many = 0
        for _ in range(700):
            wood, store = some_case(numbers)
            found = slow_answers(wood, store.facts)
            many += len(found)
            self.assertEqual(told(answers(wood, store)), told(found))
            each = list(each_answer(wood, store))
            self.assertEqual(told(sorted_maps(each)), told(found))
            self.assertEqual(len(each), len(found))
            self.assertTrue(all(list(known) == sorted(known) for known in each))
            for question in wood:
                mine = by_part(question, store)
                slow = slow_by_part(question.nodes, store.facts)
                self.assertEqual([(part, told(mine[part])) for part in mine],
                                 [(part, told(slow[part])) for part in sorted(slow)])
        self.assertGreater(many, 700)

    def test_by_part(self):
        self.assertEqual(list(by_part(TOWNS, STORE).items()), [((0,), [ANN]), ((0, 1), [BOB]), ((0, 1, 2), [])])
        self.assertEqual(by_part(Question([(None, [])]), Store()), {(0,): [{}]})

    def test_at_the_limits(self):
        # Six nodes, 16 patterns, 60 facts: each node but the first has a ring of patterns.
        nodes = [(None, [("e", "?a", "?b")])]
        for at in range(5):
            x, y, z = "?a", f"?y{at}", f"?z{at}"
            nodes.append((0, [("e", x, y), ("e", y, z), ("e", z, x)]))
        ring = [("e", f"v{at}", f"v{(at + 1) // 60 * 60 + (at + 1) % 60}") for at in range(57)]
        store = Store([*ring, ("e", "v0", "w"), ("e", "w", "u"), ("e", "u", "v0")])
        found = answers([Question(nodes)], store)
        self.assertEqual(len(found), 60)
        self.assertEqual(sorted({len(known) for known in found}), [2, 12])


class Telling(unittest.TestCase):
    """Points 51 and 52."""

    def test_tellers(self):
        people = Question.read("person(?x)")
        both = Question.read("person(?x)\n age(?x,?y)")
        self.assertEqual(tellers([TOWNS], STORE, ANN), [(0, (0,))])
        self.assertEqual(tellers([TOWNS, people, both], STORE, ANN), [(0, (0,)), (1, (0,)), (2, (0,))])
        self.assertEqual(tellers([TOWNS, people, both], STORE, {"?x": "bob"}), [(1, (0,)), (2, (0,))])
        self.assertEqual(tellers([TOWNS, people, both], STORE, BOB), [(0, (0, 1))])
        self.assertEqual(tellers([TOWNS], STORE, {"?y": "oslo", "?x": "bob"}), [(0, (0, 1))])

    def test_no_answers(self):
        for known in [{}, {"?x": "bob"}, {"?x": "eve"}, {"?x": "ann", "?y": "oslo"}, {**BOB, "?z": "eve"},
                      {"?w": "ann"},
                      {"?x": "eve", "?y": "rome"}, {**ANN, "?w": "ann"}]:
            self.assertEqual(tellers([TOWNS], STORE, known), [])
            self.assertIs(is_answer([TOWNS], STORE, known), False)
        self.assertIs(is_answer([TOWNS], STORE, BOB), True)

    def test_by_definition(self):
        numbers = dice(51)
        for _ in range(300):
            wood, store = some_case(numbers)
            slow = [slow_by_part(question.nodes, store.facts) for question in wood]
            tried = [{}, *[known for found in slow for several in found.values() for known in several]]
            tried += [{name: numbers.choice("klm") for name in known} for known in tried]
            for known in tried:
                wanted = [(tree, part) for tree, found in enumerate(slow) for part in sorted(found)
                          if known in found[part]]
                turned = dict(reversed(list(known.items())))
                self.assertEqual(tellers(wood, store, turned), wanted)
                self.assertIs(is_answer(wood, store, known), wanted != [])

    def test_many_answers_need_not_be_listed(self):
        lot = [("e", f"?v{at}") for at in range(16)]
        store = Store([("e", f"c{at}") for at in range(60)])
        wood = [Question([(None, lot[:10]), (0, lot[10:])])]
        self.assertIs(is_answer(wood, store, {name: "c1" for _, name in lot}), True)
        self.assertIs(is_answer(wood, store, {name: "c1" for _, name in lot[:10]}), False)
        self.assertEqual(fullest(wood[0], store, {name: "c1" for _, name in lot[:10]}).keys(), {name for _,
                                                                                                name in lot})

    def test_fullest(self):
        later = STORE + Store([("mayor", "oslo", "eve")])
        self.assertEqual(list(fullest(TOWNS, later, {"?x": "bob"}).items()), [("?x", "bob"), ("?y", "oslo"), ("?z",
                                                                                                              "eve")])
        self.assertEqual(fullest(TOWNS, STORE, {"?x": "bob"}), BOB)
        self.assertEqual(fullest(TOWNS, STORE, ANN), ANN)
        self.assertEqual(fullest(TOWNS, STORE, {"?y": "oslo", "?x": "bob"}), BOB)
        self.assertEqual(fullest(Question([(None, []), (0, [("town", "bob", "?y")])]), STORE, {}), {"?y": "oslo"})

    def test_fullest_by_definition(self):
        numbers = dice(52)
        for _ in range(300):
            question = some_question(numbers, numbers.randint(1, 4), root=numbers.random() < 0.8)
            store = some_store(numbers, 12)
            found = slow_by_part(question.nodes, store.facts)
            everything = [known for several in found.values() for known in several]
            for part in found:
                for known in slow_maps(slow_lot(question.nodes, part), store.facts)[:4]:
                    above = fullest(question, store, dict(reversed(list(known.items()))))
                    self.assertIn(above, everything)
                    self.assertEqual(list(above), sorted(above))
                    self.assertLessEqual(set(known.items()), set(above.items()))
                    self.assertEqual(fullest(question, store, known), above)

    def test_no_part(self):
        for known in [{}, {"?x": "eve"}, {"?y": "oslo"}, {"?x": "ann", "?y": "oslo"}, {"?w": "ann"}, {**BOB,
                                                                                                      "?z": "eve"},
                      {**ANN, "?w": "ann"}, {"?x": "bob", "?z": "oslo"}]:
            with self.subTest(known), self.assertRaises(NoPart) as caught:
                fullest(TOWNS, STORE, known)
            self.assertEqual(caught.exception.known, known)
        with self.assertRaises(NoPart):
            fullest(Question.read("person(?x)"), STORE, {**ANN, "?w": "ann"})


class Later(unittest.TestCase):
    """Points 7 and 53."""

    def test_lost(self):
        later = STORE + Store([("mayor", "oslo", "eve")])
        self.assertEqual(lost([TOWNS], STORE, later), [])
        self.assertEqual(lost([TOWNS], later, STORE), [{**BOB, "?z": "eve"}])
        self.assertEqual(lost([TOWNS], later, Store()), [ANN, {**BOB, "?z": "eve"}])
        self.assertEqual(lost([TOWNS], Store(), later), [])

    def test_above_by_another_question(self):
        wide = Question.read("town(?x,?y)\n far(?x,?z)")
        self.assertEqual(lost([Question.read("person(?x)"), wide], STORE, Store([("town", "ann", "rome")])),
                         [{"?x": "bob"}, BOB, {"?x": "eve", "?y": "rome"}])

    def test_above_by_a_node_far_down(self):
        deep = Question.read("a(?t)\n b(?t,?u)\n  b(?u,?v)\n   b(?v,?w)\n    b(?w,?x)\n  a(?y)")
        wood = [Question.read("c(?w)"), deep]
        way = [("a", "k"), ("b", "k", "l"), ("b", "l", "m"), ("b", "m", "n")]
        self.assertEqual(lost(wood, Store([("c", "n")]), Store(way)), [])
        self.assertEqual(lost(wood, Store([("c", "m")]), Store(way)), [{"?w": "m"}])
        self.assertEqual(lost(wood, Store([("c", "n")]), Store([*way[:2], way[3]])), [{"?w": "n"}])
        self.assertEqual(lost([Question.read("c(?w,?y)"), deep], Store([("c", "n", "k")]), Store(way)), [])
        self.assertEqual(lost([Question.read("c(?w,?y)"), deep], Store([("c", "n", "l")]), Store(way)),
                         [{"?w": "n", "?y": "l"}])

    def test_changes(self):
        later = Store([("mayor", "oslo", "eve"), ("person", "bob"), ("person", "eve"), ("town", "bob", "oslo")])
        self.assertEqual(changes([TOWNS], STORE, later), ([ANN, BOB], [{**BOB, "?z": "eve"}, {"?x": "eve"}]))
        self.assertEqual(changes([TOWNS], later, STORE), ([{**BOB, "?z": "eve"}, {"?x": "eve"}], [ANN, BOB]))
        self.assertEqual(changes([TOWNS], STORE, STORE), ([], []))

    def test_by_definition(self):
        numbers = dice(53)
        seen = {"lost": 0, "gone": 0, "come": 0}
        for _ in range(400):
            wood, store = some_case(numbers)
            later = some_store(numbers, numbers.randint(0, 16))
            before, after = slow_answers(wood, store.facts), slow_answers(wood, later.facts)
            away = [known for known in before if not any(known.items() <= other.items() for other in after)]
            self.assertEqual(told(lost(wood, store, later)), told(away))
            gone, come = changes(wood, store, later)
            self.assertEqual(told(gone), told([known for known in before if known not in after]))
            self.assertEqual(told(come), told([known for known in after if known not in before]))
            seen = {"lost": seen["lost"] + len(away), "gone": seen["gone"] + len(gone),
                    "come": seen["come"] + len(come)}
        self.assertGreater(min(seen.values()), 100)

    def test_nothing_is_lost_by_adding_facts(self):
        numbers = dice(54)
        for _ in range(300):
            wood, store = some_case(numbers)
            self.assertEqual(lost(wood, store, store + some_store(numbers, 4)), [])

    def test_facts_of_an_answer(self):
        # Each answer is told by a part, all of whose filled patterns are facts.
        for known in answers([TOWNS], STORE):
            for tree, part in tellers([TOWNS], STORE, known):
                self.assertTrue(all(given(p, known) in STORE for p in TOWNS.patterns(part)))


if __name__ == "__main__":
    unittest.main()
