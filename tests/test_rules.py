import itertools
import unittest

from fullestrows.errors import BadKey, BadPattern, BadRule
from fullestrows.facts import Store
from fullestrows.rules import Key, Rule, broken, keeps, store_of
from values import ANY_VALUES, dice, given, names_in, slow_maps, some_lot


class Keys(unittest.TestCase):
    """Point 30, keys."""

    def test_properties(self):
        key = Key("town", 3, [2, 0])
        self.assertEqual((key.table, key.size, key.places), ("town", 3, (0, 2)))
        self.assertIsInstance(key.places, tuple)
        key = Key(places=(0,), size=1, table="a")
        self.assertEqual((key.table, key.size, key.places), ("a", 1, (0,)))
        self.assertEqual(Key("a", 2, []).places, ())
        self.assertEqual(Key("a", 3, [0, 1, 2]).places, (0, 1, 2))

    def check_bad(self, table, size, places):
        with self.subTest((table, size, places)), self.assertRaises(BadKey):
            Key(table, size, places)

    def test_bad_tables(self):
        for table in [value for value in ANY_VALUES if value != "a"] + ["A", "a" * 13, ("a",)]:
            self.check_bad(table, 2, [0])

    def test_bad_sizes(self):
        for size in [value for value in ANY_VALUES if value is True or value not in (1, 2)] + [4, -2, "1"]:
            self.check_bad("a", size, [])

    def test_bad_places(self):
        for places in [value for value in ANY_VALUES if value not in ([], ())]:
            self.check_bad("a", 2, places)
        for places in [[2], [-1], [0, 0], [1, 0, 1], [True], [False], [0, True], ["0"], [None], [[0]], [(0,)], [{}],
                       "0", {0: 1}, (2,), (0, 0), [0, 1, 2], 0]:
            self.check_bad("a", 2, places)
        self.check_bad("a", 1, [1])
        self.check_bad("a", 3, [3])

    def test_equality(self):
        self.assertTrue(Key("a", 2, [0, 1]) == Key("a", 2, (1, 0)))
        self.assertFalse(Key("a", 2, [0]) != Key("a", 2, [0]))
        for other in [Key("b", 2, [0]), Key("a", 3, [0]), Key("a", 2, [1]), Key("a", 2, []), Rule([], ("a",)), Store(),
                      ("a", 2, (0,)), *ANY_VALUES]:
            self.assertIs(Key("a", 2, [0]) == other, False)
            self.assertIs(Key("a", 2, [0]) != other, True)

    def test_never_changes(self):
        places = [1]
        key = Key("a", 2, places)
        places.append(0)
        self.assertEqual(key.places, (1,))
        for name in ["table", "size", "places"]:
            with self.assertRaises(AttributeError):
                setattr(key, name, 1)


class Rules(unittest.TestCase):
    """Point 30, implications."""

    def test_properties(self):
        rule = Rule([("b", "?x"), ("a", "?x", "?y"), ("b", "?x")], ("c", "?y", "k"))
        self.assertEqual(rule.body, (("b", "?x"), ("a", "?x", "?y"), ("b", "?x")))
        self.assertEqual(rule.head, ("c", "?y", "k"))
        rule = Rule(head=("c", "k"), body=())
        self.assertEqual((rule.body, rule.head), ((), ("c", "k")))

    def test_bad_items_of_the_body(self):
        for value in [*ANY_VALUES, ["a", "?x"]]:
            with self.assertRaises(BadPattern) as caught:
                Rule([("a", "?x"), value], ("b", "?x"))
            self.assertIs(caught.exception.value, value)

    def test_bad_heads(self):
        for value in [*ANY_VALUES, ["b", "?x"]]:
            with self.assertRaises(BadPattern) as caught:
                Rule([("a", "?x")], value)
            self.assertIs(caught.exception.value, value)

    def test_which_error_comes_first(self):
        for body, head, value in [([("a",), 1, 2], 3, 1), ([("a",)], 3, 3), ([0], ("b", "?x"), 0),
                                  ([("a", "?x"), ["b"]], ("b", "?y"), ["b"])]:
            with self.assertRaises(BadPattern) as caught:
                Rule(body, head)
            self.assertEqual(caught.exception.value, value)

    def test_variables_of_the_head(self):
        for body, head in [([("a", "?x")], ("b", "?y")), ([], ("b", "?x")), ([("a", "?x")], ("b", "?x", "?y"))]:
            with self.assertRaises(BadRule):
                Rule(body, head)

    def test_equality(self):
        rule = Rule([("a", "?x"), ("b", "?x")], ("c", "?x"))
        self.assertTrue(rule == Rule((("a", "?x"), ("b", "?x")), ("c", "?x")))
        self.assertFalse(rule != Rule([("a", "?x"), ("b", "?x")], ("c", "?x")))
        for other in [Rule([("b", "?x"), ("a", "?x")], ("c", "?x")), Rule([("a", "?x"), ("b", "?x")], ("c", "k")),
                      Rule([("a", "?x")], ("c", "?x")), Rule([("a", "?y"), ("b", "?y")], ("c", "?y")),
                      Key("c", 1, []), Store(), *ANY_VALUES]:
            self.assertIs(rule == other, False)
            self.assertIs(rule != other, True)

    def test_never_changes(self):
        body = [("a", "?x")]
        rule = Rule(body, ("b", "?x"))
        body.clear()
        self.assertEqual(rule.body, (("a", "?x"),))
        for name in ["body", "head"]:
            with self.assertRaises(AttributeError):
                setattr(rule, name, ())


class Keeping(unittest.TestCase):
    """Point 31."""

    def check(self, facts, rules, wanted):
        self.assertEqual(broken(Store(facts), rules), wanted)
        self.assertIs(keeps(Store(facts), rules), wanted is None)

    def test_no_rules_and_no_facts(self):
        self.check([("a", "b")], [], None)
        self.check([], [Key("a", 2, [0]), Rule([("a", "?x")], ("b", "?x"))], None)

    def test_keys(self):
        facts = [("t", "a", "c"), ("t", "b", "c"), ("t", "a"), ("t", "a", "c", "d"), ("s", "a", "b")]
        self.check(facts, [Key("t", 2, [0])], None)
        self.check(facts, [Key("t", 2, [0, 1])], None)
        self.check(facts, [Key("t", 2, [1])], (0, [("t", "a", "c"), ("t", "b", "c")]))
        self.check(facts, [Key("t", 2, [])], (0, [("t", "a", "c"), ("t", "b", "c")]))
        self.check(facts, [Key("t", 1, []), Key("t", 3, []), Key("s", 2, [])], None)

    def test_first_pair(self):
        facts = [("t", "a", "z"), ("t", "b", "y"), ("t", "c", "y"), ("t", "d", "z"), ("t", "e", "z")]
        self.check(facts, [Key("t", 2, [1])], (0, [("t", "a", "z"), ("t", "d", "z")]))
        self.check(facts[1:], [Key("t", 2, [1])], (0, [("t", "b", "y"), ("t", "c", "y")]))

    def test_implications(self):
        rule = Rule([("a", "?x", "?y"), ("b", "?y")], ("c", "?x"))
        self.check([("a", "k", "l"), ("b", "m")], [rule], None)
        self.check([("a", "k", "l"), ("b", "l"), ("c", "k")], [rule], None)
        self.check([("a", "k", "l"), ("b", "l"), ("c", "l")], [rule], (0, [("a", "k", "l"), ("b", "l")]))

    def test_first_map(self):
        rule = Rule([("b", "?z"), ("a", "?x", "?y")], ("c", "?z"))
        facts = [("a", "m", "n"), ("a", "k", "z"), ("a", "k", "l"), ("b", "p"), ("b", "r"), ("b", "q"), ("c", "p")]
        self.check(facts, [rule], (0, [("b", "q"), ("a", "k", "l")]))

    def test_body_in_its_order_with_repeats(self):
        rule = Rule([("b", "?x"), ("a", "?y"), ("b", "?x"), ("a", "?x")], ("c",))
        self.check([("a", "k"), ("b", "k")], [rule], (0, [("b", "k"), ("a", "k"), ("b", "k"), ("a", "k")]))

    def test_implication_without_body(self):
        self.check([], [Rule([], ("a", "k"))], (0, []))
        self.check([("a", "k")], [Rule([], ("a", "k"))], None)

    def test_index(self):
        rules = [Key("a", 1, [0]), Rule([("a", "?x")], ("b", "?x")), Key("a", 1, [])]
        self.check([("a", "k"), ("a", "l"), ("b", "k"), ("b", "l")], rules, (2, [("a", "k"), ("a", "l")]))
        self.check([("a", "k"), ("a", "l"), ("b", "k")], tuple(rules), (1, [("a", "l")]))

    def test_kinds(self):
        found = broken(Store([("a", "k"), ("a", "l")]), [Key("a", 1, [])])
        self.assertIsInstance(found, tuple)
        self.assertIsInstance(found[1], list)

    def test_facts_with_names_of_tables(self):
        facts = [("j9k2e3", "iyx5ex", "iyx5ex", "lj"), ("j9k2e3", "lj", "p", "p"), ("s1", "iyx5ex"), ("s1", "lj"),
                 ("s1", "p")]
        rules = [
            Rule([("l", "?t"), ("j9k2e3", "iyx5ex", "iyx5ex", "?s"), ("s1", "?t"), ("l", "?r")], ("s1", "iyx5ex")),
            Rule([("u", "?s", "?s"), ("s1", "lj"), ("l", "?t"), ("s1", "?r")], ("l", "iyx5ex")),
            Rule([("j9k2e3", "?s", "lj", "?s"), ("l", "?r"), ("u", "?t", "?s"), ("s1", "?s")], ("u", "?t", "?t")),
            Rule([("s1", "?r")], ("j9k2e3", "?r", "iyx5ex", "?r"))]
        self.check(facts, rules, (3, [("s1", "iyx5ex")]))

    def test_first_map_of_several_rules(self):
        facts = [("z", "v", "v"), ("z", "w", "v"), ("ziln", "b9iu", "v"), ("ziln", "b9iu", "w"), ("ziln", "v", "b9iu"),
                 ("ziln", "v", "w"), ("ziln", "w", "v")]
        rules = [
            Rule([("ziln", "?t", "?s"), ("z", "?t", "?t")], ("ziln", "?t", "?s")),
            Rule([("z", "?t", "?r"), ("ziln", "?s", "?r"), ("ziln", "w", "?r")], ("ziln", "?r", "?t")),
            Key("z", 2, [1]), Rule([], ("ziln", "w", "b9iu"))]
        self.check(facts, rules, (1, [("z", "v", "v"), ("ziln", "b9iu", "v"), ("ziln", "w", "v")]))

    def test_at_the_limits(self):
        # Bodies of four patterns, of which 60 ** 4 maps fit.
        pairs = [("e", f"a{at}", f"b{at}") for at in range(60)]
        body = [("e", f"?{one}", f"?{other}") for one, other in ["xy", "zw", "uv", "st"]]
        self.check(pairs, [Rule(body, ("f", "?x", "?t"))], (0, [pairs[0]] * 4))
        self.check(pairs[:59] + [("f", "k")], [Rule(body, ("f", "k"))], None)
        self.check(pairs, [Rule(body, ("e", "?x", "?y")), Key("e", 2, [0]), Key("e", 2, [1])], None)
        self.check(pairs, [Rule(body, ("e", "?s", "?y"))], (0, [pairs[1]] + [pairs[0]] * 3))

    def slow_breach(self, facts, rule):
        if isinstance(rule, Key):
            rows = [fact for fact in sorted(facts) if fact[0] == rule.table and len(fact) == rule.size + 1]
            for one, other in itertools.combinations(rows, 2):
                if all(one[place + 1] == other[place + 1] for place in rule.places):
                    return [one, other]
            return None
        for found in slow_maps(rule.body, facts):
            if given(rule.head, found) not in facts:
                return [given(pattern, found) for pattern in rule.body]
        return None

    def test_equal_to_trying_everything(self):
        for seed in range(400):
            numbers = dice(seed)
            facts = set(some_lot(numbers, numbers.randint(0, 12), ["k", "l", "m"]))
            body = some_lot(numbers, numbers.randint(0, 3), ["?x", "?y", "?z", "k"])
            held = names_in(body) + ["k"]
            rules = [Rule(body, (numbers.choice("ab"), *numbers.choices(held, k=numbers.randint(0, 2)))),
                     Key(numbers.choice("ab"), 2, numbers.sample([0, 1], numbers.randint(0, 2)))]
            numbers.shuffle(rules)
            shown = [(at, self.slow_breach(facts, rule)) for at, rule in enumerate(rules)]
            wrong = [pair for pair in shown if pair[1] is not None]
            with self.subTest(seed):
                self.check(facts, rules, wrong[0] if wrong else None)

    def test_many_maps(self):
        facts = [("a", f"c{at}") for at in range(59)] + [("h", "c0")]
        rule = Rule([("a", "?p"), ("a", "?q"), ("a", "?r"), ("a", "?z")], ("h", "?z"))
        self.check(facts, [rule], (0, [("a", "c0")] * 3 + [("a", "c1")]))


class StoreOf(unittest.TestCase):
    """Point 34."""

    def check(self, lot, taken, facts, names):
        store, found = store_of(lot, taken)
        self.assertIsInstance(store, Store)
        self.assertEqual(store.facts, tuple(facts))
        self.assertEqual(list(found.items()), names)

    def test_plain(self):
        self.check([], (), [], [])
        self.check([("a", "b")], (), [("a", "b")], [])
        self.check([("a", "?y", "?x"), ("b", "?y")], (), [("a", "new2", "new1"), ("b", "new2")],
                   [("?x", "new1"), ("?y", "new2")])

    def test_constants_of_the_lot_are_left_out(self):
        self.check([("a", "?x", "new2"), ("a", "?y", "new1"), ("b", "?z", "new4")], (),
                   [("a", "new3", "new2"), ("a", "new5", "new1"), ("b", "new6", "new4")],
                   [("?x", "new3"), ("?y", "new5"), ("?z", "new6")])

        self.check([("a", "new1"), ("b", "?x")], (), [("a", "new1"), ("b", "new2")], [("?x", "new2")])

    def test_tables_are_not_left_out(self):
        self.check([("new1", "?x")], (), [("new1", "new1")], [("?x", "new1")])

    def test_taken(self):
        self.check([("a", "?x"), ("a", "?y")], ["new1", "new3", "k"], [("a", "new2"), ("a", "new4")],
                   [("?x", "new2"), ("?y", "new4")])
        self.check([("a", "?x", "new2")], ("new1",), [("a", "new3", "new2")], [("?x", "new3")])

    def test_new_variables(self):
        self.check([("a", "?new1", "?new10", "?new2")], (), [("a", "new1", "new2", "new3")],
                   [("?new1", "new1"), ("?new10", "new2"), ("?new2", "new3")])

    def test_default_and_names(self):
        self.assertEqual(store_of([("a", "?x")])[1], {"?x": "new1"})
        self.assertEqual(store_of(taken=["new1"], lot=[("a", "?x")])[1], {"?x": "new2"})


if __name__ == "__main__":
    unittest.main()
