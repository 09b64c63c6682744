"""The ways behind the decisions for all stores in which a lot is led to many grounds, one after another."""

import unittest
from unittest import mock

from fullestrows import leads
from fullestrows.closing import ground_with
from fullestrows.leads import Lead, first_led, is_led, rows_led
from values import dice, names_in, shaped_lot, slow_maps

SHAPES = (("a", 1), ("b", 2), ("b", 2), ("b", 3), ("h", 0))


class Leads(unittest.TestCase):
    def check(self, lead, lot, facts, known):
        """Compares with the definition, for a lead that knows the keys of known."""
        ground = ground_with(facts)
        wanted = slow_maps(lot, facts, known)
        found = first_led(lead, ground, known)
        self.assertEqual(found, wanted[0] if wanted else None)
        self.assertTrue(found is None or list(found) == sorted(found))
        self.assertIs(is_led(lead, ground, known), wanted != [])
        return len(wanted)

    def test_plain_patterns(self):
        lead = Lead([("b", "?x", "?y"), ("a", "k"), ("h",)], ["?x", "?y", "?z"])
        self.assertEqual((lead.steps, lead.free_names), ([], []))
        facts = [("a", "k"), ("b", "m", "?y"), ("h",)]
        self.assertEqual(first_led(lead, ground_with(facts), {"?y": "?y", "?x": "m"}), {"?x": "m", "?y": "?y"})
        self.assertIsNone(first_led(lead, ground_with(facts), {"?y": "?x", "?x": "m"}))
        self.assertIsNone(first_led(lead, ground_with(facts[:2]), {"?y": "?y", "?x": "m"}))
        self.assertIs(is_led(lead, ground_with(facts), {"?y": "?y", "?x": "m"}), True)

    def test_all_variables_known(self):
        lead = Lead((("b", "?x", "?y"),), None)
        self.assertEqual(first_led(lead, ground_with([("b", "k", "k")]), {"?x": "k", "?y": "k"}), {"?x": "k", "?y": "k"})
        self.assertIs(is_led(lead, ground_with([("b", "k", "k")]), {"?x": "k", "?y": "m"}), False)

    def test_no_patterns(self):
        self.assertEqual(first_led(Lead([], []), ground_with([]), {"?x": "k"}), {"?x": "k"})
        self.assertIs(is_led(Lead([], []), ground_with([]), {}), True)

    def test_links(self):
        lot = [("b", "?x", "?y", "?z"), ("b", "?z", "?y", "?x"), ("b", "?y", "?y")]
        lead = Lead(lot, [])
        for facts in [[("b", "k", "m", "n"), ("b", "n", "m", "k"), ("b", "m", "m")],
                      [("b", "k", "m", "n"), ("b", "n", "m", "m"), ("b", "m", "m")],
                      [("b", "k", "m", "n"), ("b", "n", "m", "k"), ("b", "m", "k")],
                      [("b", "k", "k", "k"), ("b", "k", "k")]]:
            self.check(lead, lot, facts, {})

    def test_terms_of_the_ground_may_be_the_variables_of_the_lot(self):
        lot = [("b", "?x", "?y"), ("b", "?y", "?x")]
        facts = [("b", "?y", "?x"), ("b", "?x", "?z"), ("b", "?x", "?y")]
        self.assertEqual(first_led(Lead(lot, []), ground_with(facts), {}), {"?x": "?x", "?y": "?y"})
        self.assertEqual(first_led(Lead(lot, ["?x"]), ground_with(facts), {"?x": "?y"}), {"?x": "?y", "?y": "?x"})

    def test_by_definition(self):
        terms = ["?p", "?q", "?r", "?s", "k", "m"]
        for most in [0, 3, 200]:
            numbers = dice(most)
            with mock.patch.object(leads, "MOST_LED", most):
                ways = 0
                for _ in range(400):
                    lot = shaped_lot(numbers, numbers.randint(0, 4), terms, SHAPES)
                    names = [name for name in terms[:4] if numbers.random() < 0.3]
                    lead = Lead(lot, names)
                    for _ in range(3):
                        facts = shaped_lot(numbers, numbers.randint(0, 9), ["k", "m", "?p", "?z"], SHAPES)
                        known = {name: numbers.choice(["k", "m", "?p", "?z"]) for name in names}
                        ways += self.check(lead, lot, facts, known)
                self.assertGreater(ways, 300)

    def test_many_rows_are_not_listed(self):
        lot = [("a", f"?v{at}") for at in range(6)]
        facts = [("a", f"k{at}") for at in range(20)]
        ground = ground_with(facts)
        self.assertIsNone(rows_led(Lead(lot, []).steps, ground.groups(), {}))
        self.assertEqual(len(rows_led(Lead(lot[:1], []).steps, ground.groups(), {})), 20)
        self.assertEqual(first_led(Lead(lot, []), ground, {}), {f"?v{at}": "k0" for at in range(6)})
        self.assertIs(is_led(Lead([*lot, ("b", "?v0", "?v1")], []), ground, {}), False)

    def test_the_order_of_the_patterns_means_nothing(self):
        numbers = dice(7)
        for _ in range(200):
            lot = shaped_lot(numbers, 4, ["?p", "?q", "?r", "?s", "k"], SHAPES)
            facts = shaped_lot(numbers, 12, ["k", "m", "n"], SHAPES)
            turned = numbers.sample(lot, len(lot))
            self.assertEqual(first_led(Lead(lot, []), ground_with(facts), {}),
                             first_led(Lead(turned, []), ground_with(reversed(facts)), {}))
            self.assertEqual(sorted(Lead(lot, []).spaces), names_in(lot))


if __name__ == "__main__":
    unittest.main()
