import unittest

from fullestrows.closing import closed_ground, grown
from fullestrows.errors import Clash
from fullestrows.facts import Store, filled, variables_of
from fullestrows.matching import is_above, maps
from fullestrows.rules import Key, Rule, book_of, closed, keeps, store_of
from values import dice, names_in, shaped_lot, slow_closed, some_lot

WAY = Rule([("e", "?x", "?y"), ("e", "?y", "?z")], ("e", "?x", "?z"))


def some_rules(numbers):
    """Up to three keys and implications."""
    rules = []
    for _ in range(numbers.randint(0, 3)):
        if numbers.random() < 0.5:
            size = numbers.randint(1, 3)
            rules.append(Key(numbers.choice("ab"), size, numbers.sample(range(size), numbers.randint(0, size))))
        else:
            body = some_lot(numbers, numbers.randint(0, 2), ["?x", "?y", "?p", "k"])
            held = names_in(body) + ["k"]
            rules.append(Rule(body, (numbers.choice("abc"), *numbers.choices(held, k=numbers.randint(0, 3)))))
    return rules


class Closing(unittest.TestCase):
    """Point 32."""

    def check(self, lot, rules, patterns, terms):
        found = closed(lot, rules)
        self.assertIsInstance(found, tuple)
        self.assertEqual(found[0], patterns)
        self.assertEqual(list(found[1].items()), sorted(terms.items()))

    def test_nothing_to_do(self):
        self.check([], [], [], {})
        self.check([("b", "?y"), ("a", "?x"), ("b", "?y")], [], [("a", "?x"), ("b", "?y")], {"?x": "?x", "?y": "?y"})
        self.check([("a", "?x", "k")], [Key("a", 2, [0]), WAY], [("a", "?x", "k")], {"?x": "?x"})

    def test_variable_by_constant(self):
        self.check([("a", "k", "?x"), ("a", "k", "z"), ("b", "?x")], [Key("a", 2, [0])],
                   [("a", "k", "z"), ("b", "z")], {"?x": "z"})
        self.check([("a", "k", "?x"), ("a", "k", "a"), ("b", "?x")], [Key("a", 2, [0])],
                   [("a", "k", "a"), ("b", "a")], {"?x": "a"})

    def test_greater_variable_by_lesser_one(self):
        self.check([("a", "k", "?y"), ("a", "k", "?x"), ("b", "?y", "?x")], [Key("a", 2, [0])],
                   [("a", "k", "?x"), ("b", "?x", "?x")], {"?x": "?x", "?y": "?x"})

    def test_several_in_a_row(self):
        self.check([("a", "?p", "?q"), ("a", "?p", "?r"), ("a", "?q", "?s"), ("a", "?r", "m")], [Key("a", 2, [0])],
                   [("a", "?p", "?q"), ("a", "?q", "m")], {"?p": "?p", "?q": "?q", "?r": "?q", "?s": "m"})

    def test_several_places(self):
        self.check([("a", "k", "?x", "?y"), ("a", "k", "m", "?z")], [Key("a", 3, [0])],
                   [("a", "k", "m", "?y")], {"?x": "m", "?y": "?y", "?z": "?y"})
        self.check([("a", "k", "?x", "?x"), ("a", "k", "?y", "m")], [Key("a", 3, [0])],
                   [("a", "k", "m", "m")], {"?x": "m", "?y": "m"})

    def test_clash(self):
        for lot in [[("a", "?x", "k"), ("a", "?x", "l")], [("a", "k", "?x"), ("a", "k", "l"), ("a", "l", "m"),
                                                          ("a", "?x", "n")],
                    [("a", "?x", "?y"), ("a", "?x", "k"), ("a", "m", "l"), ("b", "?y")]]:
            rules = [Key("a", 2, [0]), Rule([("b", "k")], ("a", "m", "k"))]
            with self.subTest(lot), self.assertRaises(Clash):
                closed(lot, rules)

    def test_key_without_places(self):
        self.check([("a", "?x", "?y"), ("a", "?y", "?z")], [Key("a", 2, [])], [("a", "?x", "?x")],
                   {"?x": "?x", "?y": "?x", "?z": "?x"})

    def test_size_counts(self):
        self.check([("a", "?x"), ("a", "?x", "k"), ("a", "?x", "l")], [Key("a", 1, [])],
                   [("a", "?x"), ("a", "?x", "k"), ("a", "?x", "l")], {"?x": "?x"})

    def test_implications(self):
        self.check([("e", "?a", "?b"), ("e", "?b", "?c"), ("e", "?c", "d")], [WAY],
                   [("e", "?a", "?b"), ("e", "?a", "?c"), ("e", "?a", "d"), ("e", "?b", "?c"), ("e", "?b", "d"),
                    ("e", "?c", "d")], {"?a": "?a", "?b": "?b", "?c": "?c"})

    def test_equal_names_in_rules_and_lots(self):
        self.check([("e", "?z", "?x"), ("e", "?x", "?y")], [WAY],
                   [("e", "?x", "?y"), ("e", "?z", "?x"), ("e", "?z", "?y")], {"?x": "?x", "?y": "?y", "?z": "?z"})
        self.check([("a", "?y", "?x")], [Rule([("a", "?x", "?y")], ("b", "?y", "?x"))],
                   [("a", "?y", "?x"), ("b", "?x", "?y")], {"?x": "?x", "?y": "?y"})

    def test_variables_of_the_lot_are_no_constants_of_a_rule(self):
        rule = Rule([("a", "?x", "k")], ("b", "?x"))
        self.check([("a", "?x", "?y")], [rule], [("a", "?x", "?y")], {"?x": "?x", "?y": "?y"})
        self.check([("a", "?y", "k")], [rule], [("a", "?y", "k"), ("b", "?y")], {"?y": "?y"})

    def test_implication_without_body(self):
        self.check([], [Rule([], ("a", "k"))], [("a", "k")], {})
        self.check([("a", "?x")], [Rule([], ("a", "k")), Key("a", 1, [])], [("a", "k")], {"?x": "k"})

    def test_keys_and_implications_together(self):
        rules = [Rule([("m", "?x", "?y")], ("n", "?x", "?y")), Key("n", 2, [0]), Rule([("m", "?x", "?x")], ("o", "?x"))]
        self.check([("m", "?a", "?b"), ("n", "?a", "?a")], rules,
                   [("m", "?a", "?a"), ("n", "?a", "?a"), ("o", "?a")], {"?a": "?a", "?b": "?a"})
        with self.assertRaises(Clash):
            closed([("m", "?a", "k"), ("n", "?a", "l")], rules)

    def test_key_holds_again_behind_an_implication(self):
        rules = [Key("n", 2, [0]), Rule([("m", "?x", "?y")], ("n", "k", "?y"))]
        self.check([("m", "?a", "?b"), ("m", "?c", "l")], rules,
                   [("m", "?a", "l"), ("m", "?c", "l"), ("n", "k", "l")], {"?a": "?a", "?b": "l", "?c": "?c"})

    def test_order_means_nothing(self):
        ended = 0
        for seed in range(500):
            numbers = dice(seed)
            lot = some_lot(numbers, numbers.randint(0, 5), ["?x", "?y", "?z", "?u", "k", "l"])
            rules = some_rules(numbers)
            with self.subTest(seed):
                try:
                    wanted = slow_closed(lot, rules, numbers)
                except Clash:
                    self.assertRaises(Clash, closed, lot, rules)
                    continue
                ended += 1
                self.check(lot, rules, *wanted)
                self.check(tuple(reversed(lot)), tuple(reversed(rules)), *wanted)
        self.assertGreater(ended, 200)

    def test_long_way(self):
        lot = [("e", f"?v{at}", f"?v{at + 1}") for at in range(18)]
        self.assertEqual(len(closed(lot, [WAY])[0]), 19 * 18 // 2)


def closed_on(done, added, rules):
    """What closed returns for a lot of two parts, the first of which is closed first."""
    book = book_of(rules)
    ground = grown(closed_ground(done, book), added, book)
    return sorted(ground.present), {name: ground.moved.get(name, name) for name in variables_of([*done, *added])}


class GoingOn(unittest.TestCase):
    """Point 32 for a lot, most of which is closed already, as it is in a play."""

    def check(self, done, added, rules):
        try:
            wanted = slow_closed([*done, *added], rules, dice(0))
        except Clash:
            self.assertRaises(Clash, closed_on, done, added, rules)
            return
        patterns, terms = closed_on(done, added, rules)
        self.assertEqual(patterns, wanted[0])
        self.assertEqual(list(terms.items()), sorted(wanted[1].items()))

    def test_what_has_moved_is_gone_in_what_is_added(self):
        # The variable ?z is gone from the lot when it comes again.
        done = [("h", "k", "?z"), ("h", "k", "?y")]
        self.check(done, [("g", "?z", "?x")], [Key("h", 2, [0])])
        self.assertEqual(closed_on(done, [("g", "?z", "?x")], [Key("h", 2, [0])])[0], [("g", "?y", "?x"), ("h", "k", "?y")])
        self.check(done, [("h", "?z", "?x"), ("h", "?y", "l")], [Key("h", 2, [0])])
        self.check(done, [("h", "k", "l"), ("g", "?z", "?y")], [Key("h", 2, [0])])

    def test_the_ground_grown_out_of_stays_as_it_is(self):
        book = book_of([Key("h", 2, [0]), WAY])
        base = closed_ground([("e", "?a", "?b"), ("e", "?b", "?c"), ("h", "k", "?c"), ("h", "k", "?d")], book)
        before = (dict(base.present), {shape: list(rows) for shape, rows in base.groups().items()}, dict(base.moved))
        self.assertEqual(before[2], {"?d": "?c"})
        for lot in [[("e", "?c", "?a")], [("h", "k", "l")], [("h", "?a", "l"), ("h", "?b", "m"), ("h", "k", "?a")], []]:
            grown(base, lot, book)
            self.assertEqual((base.present, base.groups(), base.moved), before)
        self.assertRaises(Clash, grown, base, [("h", "k", "l"), ("h", "k", "m")], book)
        self.assertEqual((base.present, base.groups(), base.moved), before)

    def test_nothing_added(self):
        done = closed([("e", "?a", "?b"), ("e", "?b", "c")], [WAY])[0]
        self.check(done, [], [WAY])
        self.check(done, done, [WAY])
        self.check([], [], [Rule([], ("a", "k"))])

    def test_what_is_added_is_joined_with_what_was_there(self):
        done = closed([("e", f"?v{at}", f"?v{at + 1}") for at in range(8)], [WAY])[0]
        for more in [[("e", "?v8", "?w")], [("e", "?w", "?v0")], [("e", "?w", "?v3")], [("e", "?v4", "?v4")],
                     [("e", "?v8", "?v0")], [("e", "?w", "?u")]]:
            self.check(done, more, [WAY])
            self.check(done, more, [WAY, Rule([("e", "?x", "?y"), ("e", "?y", "?x")], ("f", "?x"))])

    def test_exchange_makes_old_patterns_fresh(self):
        # Only when ?b and ?c have become the same, the old patterns fit the body.
        rules = [Rule([("e", "?x", "?y"), ("f", "?y", "?z")], ("g", "?x", "?z")), Key("h", 2, [0])]
        done = closed([("e", "?a", "?b"), ("f", "?c", "?d"), ("h", "k", "?c"), *[("n", f"?v{at}") for at in range(9)]],
                      rules)[0]
        self.check(done, [("h", "k", "?b")], rules)
        self.assertIn(("g", "?a", "?d"), closed_on(done, [("h", "k", "?b")], rules)[0])
        self.check(done, [("h", "k", "l")], rules)
        # Nearly all patterns are changed, and the body fits one of these alone.
        rules = [Rule([("p", "l")], ("g", "l")), Key("h", 2, [0])]
        done = [("h", "k", "?c"), *[("n", "?c", f"?v{at}") for at in range(9)], ("p", "?c")]
        self.check(done, [("h", "k", "l")], rules)
        self.assertIn(("g", "l"), closed_on(done, [("h", "k", "l")], rules)[0])

    def test_equal_to_closing_the_whole(self):
        ended = 0
        for seed in range(400):
            numbers = dice(seed)
            terms = ["?x", "?y", "?z", "?u", "?v", "k", "l"]
            rules = some_rules(numbers) if seed % 2 else [
                Rule(body, shaped_lot(numbers, 1, [*names_in(body), "k"])[0])
                for body in [shaped_lot(numbers, numbers.randint(1, 3), ["?x", "?y", "?z"]) for _ in range(2)]]
            rules += [Key("b", 2, [0])] if seed % 3 == 0 else []
            lot = shaped_lot(numbers, numbers.randint(4, 12), terms)
            try:
                done = closed(lot, rules)[0]
            except Clash:
                continue
            ended += 1
            with self.subTest(seed):
                more = shaped_lot(numbers, numbers.randint(1, 2), [*terms, "?new1"])
                self.check(done, more, rules)
                self.check(lot, more, rules)
        self.assertGreater(ended, 200)


class MainStatement(unittest.TestCase):
    """Point 33."""

    def test_end_is_a_store_that_keeps_the_rules(self):
        for seed in range(300):
            numbers = dice(seed)
            lot = some_lot(numbers, numbers.randint(0, 5), ["?x", "?y", "?z", "?u", "k", "l"])
            rules = some_rules(numbers)
            try:
                patterns, terms = closed(lot, rules)
            except Clash:
                continue
            with self.subTest(seed):
                store, names = store_of(patterns)
                self.assertTrue(keeps(store, rules))
                found = {name: names.get(term, term) for name, term in terms.items()}
                self.assertTrue(all(filled(pattern, found) in store for pattern in lot))
                self.assertEqual(closed(patterns, rules), (patterns, {name: name for name in variables_of(patterns)}))

    def test_maps_fit_the_end(self):
        met = 0
        for seed in range(600):
            numbers = dice(seed)
            store = Store(some_lot(numbers, numbers.randint(2, 12), ["k", "l", "m"]))
            lot = some_lot(numbers, numbers.randint(1, 3), ["?x", "?y", "?z", "k"])
            rules = some_rules(numbers)
            fitting = maps(lot, store)
            if fitting and keeps(store, rules):
                patterns, terms = closed(lot, rules)
                for found in fitting:
                    met += 1
                    self.assertTrue(all(filled(pattern, found) in store for pattern in patterns))
                    self.assertTrue(is_above(found, {name: found.get(term, term) for name, term in terms.items()}))
        self.assertGreater(met, 100)


if __name__ == "__main__":
    unittest.main()
