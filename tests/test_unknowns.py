import unittest

from fullestrows.answers import answers
from fullestrows.errors import Clash
from fullestrows.facts import Store
from fullestrows.questions import Question
from fullestrows.rules import Key, Rule
from fullestrows.unknowns import against, is_possible, is_sure, is_why, some_store, sure_maps, why_sure
from small import SHAPES, STORES, Answered, canonical, odd_values, slow_keeps, some_rules, some_wood
from test_containment import CLASH, EMPTY, ONE_TOWN, PEOPLE
from values import (
    ANY_VALUES, dice, shaped_lot, slow_answers, slow_closed, slow_lot, slow_maps, slow_parts, sorted_maps, told,
)

TOWNS = Question([(None, [("town", "?x", "?y")]), (0, [("mayor", "?y", "?z")])])
LOT = [("town", "ann", "?u"), ("mayor", "?u", "eve"), ("town", "bob", "oslo")]
IMPOSSIBLE = [("town", "ann", "rome"), ("town", "ann", "oslo")]


def some_case(numbers):
    """A wood, a lot and rules."""
    wood = some_wood(numbers, nodes=3, constants=numbers.choice([("k",), ()]))
    lot = shaped_lot(numbers, numbers.randint(0, 5), ["?u", "?v", "?p", "k", "k", "m"], SHAPES)
    return wood, lot, some_rules(numbers)


def slow_end(lot, rules):
    """The closed lot, or None if no store is possible, to the letter."""
    try:
        return slow_closed(lot, rules, dice(0))[0]
    except Clash:
        return None


def right_reasons(wood, lot):
    """All tuples (tree, part, dict) of parts that a dict leads to a closed lot."""
    return [(tree, part, found) for tree, question in enumerate(wood) for part in slow_parts(question.nodes)
            for found in slow_maps(slow_lot(question.nodes, part), lot)]


def surest(wood, lot):
    """The sure maps that no other one is above, by the main statement."""
    sure = sorted_maps([{name: term for name, term in found.items() if term[0] != "?"}
                        for _, _, found in right_reasons(wood, lot)])
    return [known for known in sure if not any(known != other and known.items() <= other.items() for other in sure)]


def maps_to_try(numbers, wood, lot):
    """Maps that may be sure."""
    found = [{name: term if term[0] != "?" else numbers.choice("km") for name, term in one.items()}
             for _, _, one in right_reasons(wood, lot)]
    found = [{name: term for name, term in known.items() if numbers.random() < 0.6} for known in found]
    numbers.shuffle(found)
    return [{}, {"?p": "k"}, {"?q": "m", "?p": "k"}, *found[:4]]


class Possible(unittest.TestCase):
    """Point 130."""

    def test_is_possible(self):
        self.assertIs(is_possible(Store([("town", "bob", "oslo")]), LOT), False)
        rome = [("town", "ann", "rome"), ("mayor", "rome", "eve"), ("town", "bob", "oslo")]
        self.assertIs(is_possible(Store(rome), LOT), True)
        self.assertIs(is_possible(Store([*rome, ("halt",)]), LOT, [ONE_TOWN]), True)
        self.assertIs(is_possible(Store([*rome, ("town", "ann", "oslo")]), lot=tuple(LOT), rules=(ONE_TOWN,)), False)
        # Different variables may stand for the same constant.
        self.assertIs(is_possible(Store([("b", "k", "k")]), [("b", "?u", "?v"), ("b", "?v", "?w")]), True)
        self.assertIs(is_possible(Store(), []), True)
        self.assertIs(is_possible(Store(), [], CLASH), True)

    def test_some_store(self):
        self.assertEqual(some_store([("a", "?b")]), Store([("a", "new1")]))
        self.assertEqual(some_store([]), Store())
        self.assertEqual(some_store(LOT, [Rule([("town", "?p", "?q")], ("place", "?q"))]).only(["place"]),
                         Store([("place", "new1"), ("place", "oslo")]))
        self.assertEqual(some_store([*LOT, ("town", "ann", "rome")], rules=[ONE_TOWN]).only(["mayor"]),
                         Store([("mayor", "rome", "eve")]))
        for function in [some_store, lambda lot, rules: sure_maps([TOWNS], lot, rules=rules),
                         lambda lot, rules: why_sure({}, [TOWNS], lot, rules=rules)]:
            self.assertRaises(Clash, function, IMPOSSIBLE, [ONE_TOWN])

    def test_by_definition(self):
        numbers = dice(130)
        seen = {"clash": 0, True: 0, False: 0}
        for _ in range(600):
            _, lot, rules = some_case(numbers)
            end = slow_end(lot, rules)
            for store in numbers.sample(STORES, 3):
                wanted = slow_keeps(store.facts, rules) and slow_maps(lot, store.facts) != []
                self.assertIs(is_possible(store, lot, rules), wanted)
                seen[wanted] += 1
            if end is None:
                seen["clash"] += 1
                self.assertRaises(Clash, some_store, lot, rules)
                for store in STORES:
                    self.assertFalse(slow_keeps(store.facts, rules) and slow_maps(lot, store.facts) != [])
            else:
                store = some_store(lot, rules)
                self.assertTrue(slow_keeps(store.facts, rules))
                self.assertTrue(slow_maps(lot, store.facts))
        self.assertGreater(min(seen.values()), 10)


class Sure(unittest.TestCase):
    """Points 131 and 133."""

    def test_is_sure(self):
        for known, wanted in [({"?z": "eve"}, True), ({"?x": "ann"}, True), ({"?z": "eve", "?x": "ann"}, True), ({}, True),
                              ({"?x": "ann", "?y": "oslo"}, False), ({"?y": "oslo"}, True), ({"?x": "eve"}, False),
                              ({"?w": "ann"}, False), ({"?x": "bob", "?z": "eve"}, False),
                              ({"?x": "bob", "?y": "oslo"}, True)]:
            self.assertIs(is_sure(known, [TOWNS], LOT), wanted)
            self.assertIs(against(known, [TOWNS], LOT) is None, wanted)
            self.assertIs(why_sure(known, [TOWNS], LOT) is not None, wanted)

    def test_sure_by_no_part_with_just_its_keys(self):
        # No part has ?z alone or ?x and ?z, but a part that has more is there for all stores.
        self.assertEqual(why_sure({"?z": "eve"}, [TOWNS], LOT), (0, (0, 1), {"?x": "ann", "?y": "?u", "?z": "eve"}))
        self.assertIs(is_why((0, (0, 1), {"?z": "eve", "?y": "?u", "?x": "ann"}), {"?z": "eve"}, [TOWNS], LOT), True)

    def test_no_store_is_possible(self):
        for known in [{}, {"?x": "eve"}, {"?w": "k"}]:
            for wood in [[TOWNS], []]:
                self.assertIs(is_sure(known, wood, IMPOSSIBLE, rules=[ONE_TOWN]), True)
                self.assertIsNone(against(known, wood, IMPOSSIBLE, rules=[ONE_TOWN]))
                self.assertIs(is_why((0, (0,), {"?x": "ann", "?y": "rome"}), known, wood, IMPOSSIBLE,
                                     rules=[ONE_TOWN]), False)

    def test_woods_without_questions_and_patterns(self):
        self.assertIs(is_sure({}, [], LOT), False)
        self.assertEqual(against({}, [], LOT), some_store(LOT))
        self.assertIs(is_sure({}, [EMPTY], []), True)
        self.assertIs(is_sure({}, [PEOPLE], []), False)
        self.assertEqual(against({}, [PEOPLE], []), Store())

    def test_against(self):
        store = against({"?x": "ann", "?y": "oslo"}, [TOWNS], LOT)
        self.assertEqual(store.facts, (("mayor", "new1", "eve"), ("town", "ann", "new1"), ("town", "bob", "oslo")))
        # A constant that is asked for is not taken for an unknown one, even if the package made it.
        store = against({"?x": "ann", "?y": "new1"}, [TOWNS], LOT)
        self.assertEqual(store.facts, (("mayor", "new2", "eve"), ("town", "ann", "new2"), ("town", "bob", "oslo")))
        made = Question.read("town(?x,new1)")
        self.assertFalse([known for known in answers([made], against({"?x": "ann"}, [made], LOT))])

    def test_variables_of_both_are_kept_apart(self):
        lot = [("town", "?y", "?x"), ("mayor", "?x", "?x")]
        self.assertEqual(why_sure({}, [TOWNS], lot), (0, (0,), {"?x": "?y", "?y": "?x"}))
        self.assertEqual(sure_maps([TOWNS], lot), [{}])
        self.assertEqual(sure_maps([TOWNS], [("town", "?x", "oslo"), ("town", "?y", "?x")]), [{"?y": "oslo"}])

    def test_main_statement(self):
        numbers = dice(131)
        seen = {True: 0, False: 0, None: 0}
        for _ in range(400):
            wood, lot, rules = some_case(numbers)
            end = slow_end(lot, rules)
            for known in maps_to_try(numbers, wood, end or []):
                turned = dict(reversed(list(known.items())))
                wanted = end is None or any(known.items() <= found.items() for _, _, found in right_reasons(wood, end))
                self.assertIs(is_sure(turned, wood, lot, rules=rules), wanted)
                seen[None if end is None else wanted] += 1
                store = against(turned, wood, lot, rules=rules)
                self.assertIs(store is None, wanted)
                if store is not None:
                    self.assertTrue(slow_keeps(store.facts, rules) and slow_maps(lot, store.facts))
                    self.assertFalse([one for one in slow_answers(wood, store.facts) if known.items() <= one.items()])
        self.assertGreater(min(seen.values()), 40)

    def test_sure_in_all_possible_stores(self):
        numbers = dice(132)
        answered = Answered()
        sure = 0
        for _ in range(200):
            wood, lot, rules = some_case(numbers)
            possible = [store for store in STORES if slow_keeps(store.facts, rules) and slow_maps(lot, store.facts)]
            for known in maps_to_try(numbers, wood, slow_end(lot, rules) or []):
                if is_sure(known, wood, lot, rules=rules):
                    sure += 1
                    for store in possible:
                        self.assertTrue(any(known.items() <= one.items() for one in answered.of(wood, store)))
        self.assertGreater(sure, 150)


class SureMaps(unittest.TestCase):
    """Point 132."""

    def test_sure_maps(self):
        self.assertEqual(told(sure_maps([TOWNS], LOT)), [[("?x", "ann"), ("?z", "eve")], [("?x", "bob"), ("?y", "oslo")]])
        self.assertEqual(sure_maps([TOWNS], [*LOT, ("town", "ann", "rome")], rules=[ONE_TOWN]),
                         [{"?x": "ann", "?y": "rome", "?z": "eve"}, {"?x": "bob", "?y": "oslo"}])
        self.assertEqual(sure_maps([], LOT), [])
        self.assertEqual(sure_maps([EMPTY], LOT), [{}])
        self.assertEqual(sure_maps([PEOPLE], LOT), [])
        self.assertEqual(sure_maps([PEOPLE], [("person", "?u")]), [{}])
        self.assertEqual(sure_maps([PEOPLE, EMPTY], [("person", "?u"), ("person", "ann")]), [{"?x": "ann"}])

    def test_no_map_below_another(self):
        # By the second question {"?x": "k"} is sure, too, but the first one tells more.
        wood = [Question.read("b(?x,?y)"), Question.read("a(?x)")]
        self.assertEqual(sure_maps(wood, [("a", "k"), ("a", "m"), ("b", "k", "n"), ("b", "k", "?u")]),
                         [{"?x": "k", "?y": "n"}, {"?x": "m"}])

    def test_many_unknown_values(self):
        wide = Question([(None, [("p", "?x")]), *[(0, [("e", "?x", f"?y{at}")]) for at in range(5)]])
        lot = [("p", "k"), *[("e", "k", f"?u{at}") for at in range(17)]]
        self.assertEqual(sure_maps([wide] * 4, lot), [{"?x": "k"}])
        self.assertEqual(len(sure_maps([wide], [*lot, ("e", "k", "m"), ("e", "k", "n")])), 32)

    def test_by_definition(self):
        numbers = dice(133)
        many = 0
        for _ in range(900):
            wood, lot, rules = some_case(numbers)
            end = slow_end(lot, rules)
            if end is None:
                self.assertRaises(Clash, sure_maps, wood, lot, rules=rules)
                continue
            wanted = surest(wood, end)
            many += len(wanted)
            self.assertEqual(told(sure_maps(wood, lot, rules=rules)), told(wanted))
        self.assertGreater(many, 200)

    def test_sure_maps_are_sure(self):
        numbers = dice(134)
        for _ in range(100):
            wood, lot, rules = some_case(numbers)
            if slow_end(lot, rules) is not None:
                for known in sure_maps(wood, lot, rules=rules):
                    self.assertIs(is_sure(known, wood, lot, rules=rules), True)

    def test_why_sure(self):
        numbers = dice(135)
        seen = {True: 0, False: 0}
        for _ in range(300):
            wood, lot, rules = some_case(numbers)
            end = slow_end(lot, rules)
            if end is None:
                self.assertRaises(Clash, why_sure, {}, wood, lot, rules=rules)
                continue
            for known in maps_to_try(numbers, wood, end):
                right = [one for one in right_reasons(wood, end) if known.items() <= one[2].items()]
                found = why_sure(dict(reversed(list(known.items()))), wood, lot, rules=rules)
                seen[bool(right)] += 1
                if right:
                    self.assertIn(found, right)
                    self.assertEqual(list(found[2]), sorted(found[2]))
                    for one in [found, numbers.choice(right)]:
                        turned = (*one[:2], dict(reversed(list(one[2].items()))))
                        self.assertIs(is_why(turned, known, wood, lot, rules=rules), True)
                else:
                    self.assertIsNone(found)
        self.assertGreater(min(seen.values()), 100)

    def test_is_why_any_value(self):
        for known in [{"?z": "eve"}, {"?x": "ann"}, {}]:
            right = [canonical(one) for one in right_reasons([EMPTY, TOWNS], LOT) if known.items() <= one[2].items()]
            several = [value for one in right_reasons([EMPTY, TOWNS], LOT) for value in odd_values(one)]
            self.assertGreater(len(several), 150)
            for value in [*several, *ANY_VALUES]:
                self.assertIs(is_why(value, known, [EMPTY, TOWNS], LOT), canonical(value) in right, value)
        for value in [(1, (0,), found) for found in ANY_VALUES] + [(1, part, {}) for part in ANY_VALUES]:
            self.assertIs(is_why(value, {}, [EMPTY, TOWNS], LOT), False)
        for value in [(tree, (0,), {}) for tree in ANY_VALUES]:
            self.assertIs(is_why(value, {}, [EMPTY, TOWNS], LOT), value[0] == 0 and value[0] is not False)

    def test_is_why_by_definition(self):
        numbers = dice(136)
        seen = {True: 0, False: 0}
        for _ in range(200):
            wood, lot, rules = some_case(numbers)
            end = slow_end(lot, rules)
            for known in maps_to_try(numbers, wood, end or [])[:3]:
                every = right_reasons(wood, lot if end is None else end)
                for one in numbers.sample(every, min(len(every), 5)):
                    wanted = end is not None and known.items() <= one[2].items()
                    self.assertIs(is_why(one, known, wood, lot, rules=rules), wanted)
                    seen[wanted] += 1
        self.assertGreater(min(seen.values()), 60)

    def test_at_the_limits(self):
        chain = Question([(None, [("e", f"?a{at}", f"?a{at + 1}") for at in range(11)]),
                          *[(0, [("e", f"?a{at}", f"?b{at}")]) for at in range(5)]])
        lot = [("e", f"?u{at % 6}", f"?u{(at * 5 + 1) % 6}") for at in range(17)] + [("e", "k", "?u1")]
        rules = [Rule([("e", "?p", "?q"), ("e", "?q", "?r")], ("f", "?p", "?r")), Key("f", 2, [0, 1]),
                 Rule([("f", "?p", "?q"), ("f", "?q", "?r")], ("f", "?p", "?r"))]
        self.assertIs(is_sure({"?a0": "k"}, [chain] * 4, lot, rules=rules), True)
        self.assertIs(is_sure({"?a1": "k"}, [chain] * 4, lot, rules=rules), False)
        self.assertTrue(all(set(known.values()) <= {"k"} for known in sure_maps([chain], lot, rules=rules)))


if __name__ == "__main__":
    unittest.main()
