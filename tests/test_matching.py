import inspect
import itertools
import unittest

from fullestrows.facts import Store
from fullestrows.matching import (
    agree, count_maps, each_map, first_map, in_order, is_above, joined, map_between, maps, only_keys,
)
from values import dice, slow_maps, some_lot

STORE = Store([("town", "ann", "rome"), ("town", "bob", "oslo"), ("mayor", "oslo", "eve"), ("halt",), ("e", "a", "a"),
               ("e", "a", "b"), ("e", "b", "a"), ("town", "ann")])


def told(several):
    """Dicts as lists of pairs, so that the order of their keys counts."""
    return [list(known.items()) for known in several]


def shuffled(numbers, start):
    """A dict with the keys of another one in another order."""
    keys = list(start)
    numbers.shuffle(keys)
    return {key: start[key] for key in keys}


class Maps(unittest.TestCase):
    """Point 20."""

    def check(self, lot, wanted, known=None, store=STORE):
        self.assertEqual(told(maps(lot, store, known)), wanted)
        self.assertEqual(told(each_map(lot, store, known)), wanted)
        self.assertEqual(count_maps(lot, store, known), len(wanted))
        first = first_map(lot, store, known)
        self.assertEqual(None if first is None else list(first.items()), wanted[0] if wanted else None)

    def test_one_pattern(self):
        self.check([("town", "?x", "?y")], [[("?x", "ann"), ("?y", "rome")], [("?x", "bob"), ("?y", "oslo")]])
        self.check([("town", "?y", "?x")], [[("?x", "oslo"), ("?y", "bob")], [("?x", "rome"), ("?y", "ann")]])
        self.check([("town", "?x", "rome")], [[("?x", "ann")]])
        self.check([("town", "?x", "paris")], [])
        self.check([("none", "?x")], [])

    def test_number_of_terms_counts(self):
        self.check([("town", "?x")], [[("?x", "ann")]])
        self.check([("town",)], [])
        self.check([("halt", "?x")], [])

    def test_several_patterns(self):
        self.check([("town", "?x", "?y"), ("mayor", "?y", "?z")], [[("?x", "bob"), ("?y", "oslo"), ("?z", "eve")]])
        self.check([("town", "?x", "?y"), ("mayor", "?x", "?z")], [])

    def test_variable_twice_in_a_pattern(self):
        self.check([("e", "?x", "?x")], [[("?x", "a")]])
        self.check([("town", "?x", "?x")], [])

    def test_pattern_twice_in_a_lot(self):
        self.check([("e", "?x", "?x"), ("e", "?x", "?x")], [[("?x", "a")]])

    def test_no_variables(self):
        self.check([("halt",)], [[]])
        self.check([("mayor", "oslo", "eve")], [[]])
        self.check([("mayor", "oslo", "ann")], [])
        self.check([("halt",), ("halt",), ("go",)], [])

    def test_lot_without_patterns(self):
        self.check([], [[]])
        self.check([], [[]], store=Store())
        self.check([], [[("?x", "a"), ("?y", "b")]], {"?y": "b", "?x": "a"})

    def test_store_without_facts(self):
        self.check([("town", "?x", "?y")], [], store=Store())

    def test_known(self):
        self.check([("town", "?x", "?y")], [[("?x", "bob"), ("?y", "oslo")]], {"?x": "bob"})
        self.check([("town", "?x", "?y")], [], {"?x": "oslo"})
        self.check([("town", "?x", "?y")], [[("?x", "bob"), ("?y", "oslo")]], {"?y": "oslo", "?x": "bob"})
        self.check([("town", "?x", "?y")], [[("?x", "ann"), ("?y", "rome")], [("?x", "bob"), ("?y", "oslo")]], {})

    def test_known_has_other_variables(self):
        self.check([("town", "?x", "?y")], [[("?w", "zed"), ("?x", "ann"), ("?y", "rome")],
                                            [("?w", "zed"), ("?x", "bob"), ("?y", "oslo")]], {"?w": "zed"})
        self.check([("mayor", "oslo", "eve")], [[("?x", "ann")]], {"?x": "ann"})
        self.check([("mayor", "oslo", "ann")], [], {"?x": "ann"})

    def test_apart(self):
        self.check([("e", "?y", "b"), ("mayor", "?z", "?x")], [[("?x", "eve"), ("?y", "a"), ("?z", "oslo")]])

    def test_each_map_is_a_generator(self):
        self.assertTrue(inspect.isgeneratorfunction(each_map))
        steps = each_map([("e", "?x", "?y")], STORE)
        self.assertEqual(next(steps), {"?x": "a", "?y": "a"})
        self.assertEqual(list(steps), [{"?x": "a", "?y": "b"}, {"?x": "b", "?y": "a"}])

    def test_equal_to_trying_everything(self):
        terms = ["?a", "?b", "?c", "?d", "k", "l"]
        for seed in range(400):
            numbers = dice(seed)
            facts = [fact for fact in some_lot(numbers, numbers.randint(0, 14), ["k", "l", "m"])]
            lot = some_lot(numbers, numbers.randint(0, 4), terms)
            known = {name: numbers.choice(["k", "l", "m"]) for name in ["?z", "?a", "?b"] if numbers.random() < 0.2}
            with self.subTest(seed):
                wanted = slow_maps(lot, set(facts), known)
                self.check(lot, told(wanted), shuffled(numbers, known), Store(facts))

    def test_round_lots(self):
        for seed in range(60):
            numbers = dice(seed)
            facts = [("e", numbers.choice("abcd"), numbers.choice("abcd")) for _ in range(numbers.randint(3, 9))]
            names = ["?p", "?q", "?r", "?s", "?t"]
            numbers.shuffle(names)
            lot = [("e", names[at], names[(at + 1) % 5]) for at in range(5)]
            lot += [("e", numbers.choice(names), numbers.choice(names))]
            with self.subTest(seed):
                self.check(lot, told(slow_maps(lot, set(facts))), None, Store(facts))


class ManyMaps(unittest.TestCase):
    """Point 20 at the limits of point 9: nothing is gone through for nothing."""

    def test_many_apart(self):
        lot = [("n", f"?x{at}") for at in range(18)]
        store = Store([("n", f"c{at}") for at in range(60)])
        self.assertEqual(count_maps(lot, store), 60 ** 18)
        self.assertEqual(first_map(lot, store), {f"?x{at}": "c0" for at in sorted(range(18), key=str)})
        few = list(itertools.islice(each_map(lot, store), 3))
        self.assertEqual([known["?x9"] for known in few], ["c0", "c1", "c10"])

    def test_long_way(self):
        store = Store([("e", f"{side}{at}", f"{other}{at + 1}") for at in range(14) for side in "ab" for other in "ab"])
        way = [("e", f"?v{at}", f"?v{at + 1}") for at in range(14)]
        self.assertEqual(count_maps(way, store), 2 ** 15)
        self.assertIsNone(first_map([*way, ("e", "?v14", "?v15")], store))
        self.assertEqual(count_maps([*way, ("e", "?v14", "?v15")], store), 0)

    def test_no_colours(self):
        store = Store([("neq", one, other) for one, other in itertools.permutations("abcde", 2)])
        lot = [("neq", f"?x{one}", f"?x{other}") for one, other in itertools.combinations(range(6), 2)]
        self.assertIsNone(first_map([*lot, ("neq", "?a", "?b"), ("neq", "?c", "?d")], store))

    def test_one_part_without_maps(self):
        store = Store([("neq", "a", "b"), ("neq", "b", "a"), *[("n", f"c{at}") for at in range(20)]])
        odd = [("neq", "?z1", "?z2"), ("neq", "?z2", "?z3"), ("neq", "?z3", "?z1")]
        self.assertEqual(maps([("n", f"?x{at}") for at in range(12)] + odd, store), [])


class Between(unittest.TestCase):
    """Point 21."""

    def test_plain(self):
        self.assertEqual(map_between([("a", "?x", "?y")], [("a", "?z", "?z")]), {"?x": "?z", "?y": "?z"})
        self.assertEqual(map_between([("a", "?x", "b")], [("a", "c", "b")]), {"?x": "c"})
        self.assertEqual(map_between([], []), {})
        self.assertEqual(map_between([], [("a", "b")], {"?y": "?x", "?a": "k"}), {"?a": "k", "?y": "?x"})
        self.assertIsNone(map_between([("a",)], []))
        self.assertEqual(map_between([("a",)], [("a",)]), {})

    def test_variables_of_the_second_lot_are_as_constants(self):
        self.assertIsNone(map_between([("a", "?x", "b")], [("a", "?z", "?z")]))
        self.assertIsNone(map_between([("a", "?x", "?x")], [("a", "?y", "?z")]))
        self.assertIsNone(map_between([("a", "b")], [("a", "?x")]))

    def test_equal_names_on_both_sides(self):
        self.assertEqual(map_between([("a", "?x", "?y")], [("a", "?y", "?x")]), {"?x": "?y", "?y": "?x"})
        self.assertIsNone(map_between([("a", "?x"), ("b", "?x")], [("a", "?x"), ("b", "?y")]))
        self.assertEqual(map_between([("a", "?x", "?y")], [("a", "?y", "?x")], {"?x": "?y"}), {"?x": "?y", "?y": "?x"})
        self.assertIsNone(map_between([("a", "?x", "?y")], [("a", "?x", "?x")], {"?x": "?y"}))
        self.assertIsNone(map_between([("a", "?x", "?y")], [("a", "?y", "?x")], {"?x": "?y", "?y": "?y"}))

    def test_first_one(self):
        others = [("a", "m"), ("a", "?z"), ("a", "?b"), ("a", "b")]
        self.assertEqual(map_between([("a", "?x")], others), {"?x": "?b"})
        self.assertEqual(map_between([("a", "?x")], others[:1] + others[3:]), {"?x": "b"})
        self.assertEqual(map_between([("a", "?y", "?x")], [("a", "a", "z"), ("a", "b", "c")]), {"?x": "c", "?y": "b"})

    def test_known(self):
        others = [("a", "?p", "?q"), ("a", "?q", "?p")]
        self.assertEqual(map_between([("a", "?x", "?y")], others, {"?x": "?q"}), {"?x": "?q", "?y": "?p"})
        self.assertIsNone(map_between([("a", "?x", "?y")], others, {"?x": "?r"}))
        found = map_between([("a", "?x", "?y")], others, {"?z": "?r", "?a": "k"})
        self.assertEqual(list(found.items()), [("?a", "k"), ("?x", "?p"), ("?y", "?q"), ("?z", "?r")])

    def test_equal_to_trying_everything(self):
        for seed in range(400):
            numbers = dice(seed)
            lot = some_lot(numbers, numbers.randint(0, 4), ["?a", "?b", "?c", "k"])
            others = some_lot(numbers, numbers.randint(0, 12), ["?a", "?b", "k", "l"])
            known = {name: numbers.choice(["?a", "?b", "k"]) for name in ["?a", "?z"] if numbers.random() < 0.3}
            wanted = slow_maps(lot, set(others), known)
            with self.subTest(seed):
                found = map_between(lot, others, known)
                self.assertEqual([] if found is None else told([found]), told(wanted[:1]))


class WithMaps(unittest.TestCase):
    """Point 22."""

    def test_agree(self):
        self.assertIs(agree({"?x": "a"}, {"?x": "a", "?y": "b"}), True)
        self.assertIs(agree({"?x": "a", "?z": "c"}, {"?y": "b"}), True)
        self.assertIs(agree({}, {}), True)
        self.assertIs(agree({"?x": "a"}, {"?x": "b"}), False)
        self.assertIs(agree({"?x": "a", "?y": "b"}, {"?y": "c", "?x": "a"}), False)

    def test_joined(self):
        self.assertEqual(list(joined({"?x": "a"}, {"?w": "b"}).items()), [("?w", "b"), ("?x", "a")])
        self.assertEqual(joined({"?x": "a"}, {"?x": "a", "?y": "c"}), {"?x": "a", "?y": "c"})
        self.assertEqual(joined({}, {}), {})

    def test_is_above(self):
        self.assertIs(is_above({"?x": "a"}, {}), True)
        self.assertIs(is_above({"?x": "a"}, {"?x": "a"}), True)
        self.assertIs(is_above({"?y": "b", "?x": "a"}, {"?x": "a"}), True)
        self.assertIs(is_above({}, {"?x": "a"}), False)
        self.assertIs(is_above({"?x": "b"}, {"?x": "a"}), False)
        self.assertIs(is_above({"?y": "a"}, {"?x": "a"}), False)

    def test_only_keys(self):
        known = {"?z": "c", "?x": "a", "?y": "b"}
        self.assertEqual(list(only_keys(known, ["?z", "?q", "?x", "?z"]).items()), [("?x", "a"), ("?z", "c")])
        self.assertEqual(only_keys(known, []), {})
        self.assertEqual(only_keys(known, ("?y",)), {"?y": "b"})
        self.assertEqual(only_keys({}, ["?y"]), {})

    def test_in_order(self):
        several = [{"?x": "b"}, {"?w": "c", "?x": "a"}, {"?x": "b"}, {}, {"?x": "a", "?w": "c"}, {"?w": "c"},
                   {"?x": "a", "?y": "a"}]
        self.assertEqual(told(in_order(several)), [
            [], [("?w", "c")], [("?w", "c"), ("?x", "a")], [("?x", "a"), ("?y", "a")], [("?x", "b")]])
        self.assertEqual(in_order([]), [])
        self.assertEqual(in_order(({"?x": "a"},)), [{"?x": "a"}])


if __name__ == "__main__":
    unittest.main()
