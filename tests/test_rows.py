"""The quick ways behind many points: they find what the slow ways find, and end where there is too much."""

import unittest
from unittest import mock

import test_closing
import test_games
import test_leads
import test_matching
import test_rules
import test_shown
import test_thinning
from fullestrows import closing, leads, matching, rows
from fullestrows.facts import by_shape
from fullestrows.rows import fitting, small_rows
from values import dice, names_in, slow_maps, some_lot, told

FACTS = [("e", "a", "a"), ("e", "a", "b"), ("e", "b", "c"), ("n", "b"), ("n", "c"), ("e", "a")]


class Rows(unittest.TestCase):
    def found(self, lot, facts, known=None, most=1000):
        """The maps that the rows tell, or None."""
        start = known or {}
        small = small_rows(lot, by_shape(facts), start, most)
        if small is None:
            return None
        places, several = small
        if several:
            self.assertEqual(sorted(places), [name for name in names_in(lot) if name not in start])
        return [{**start, **{name: row[place] for name, place in places.items()}} for row in several]

    def test_fitting(self):
        def fits(pattern, known=None):
            return list(fitting(pattern, by_shape(FACTS), known or {}))
        self.assertEqual(fits(("e", "?x", "?y")), FACTS[:3])
        self.assertEqual(fits(("e", "?x")), FACTS[5:])
        self.assertEqual(fits(("e", "?x", "?x")), FACTS[:1])
        self.assertEqual(fits(("e", "?x", "b")), FACTS[1:2])
        self.assertEqual(fits(("e", "?x", "?y"), {"?y": "c"}), FACTS[2:3])
        self.assertEqual(fits(("e", "?x", "?x"), {"?x": "b"}), [])
        self.assertEqual(fits(("e", "?x", "?x"), {"?x": "a"}), FACTS[:1])
        self.assertEqual([fits(("f", "?x")), fits(("e",))], [[], []])
        self.assertEqual(list(fitting(("e", "?x", "?x", "?x"), by_shape([("e", "a", "a", "b"), ("e", "b", "b", "b")]),
                                      {})),
                         [("e", "b", "b", "b")])

    def test_groups_stay_as_they_are(self):
        groups = by_shape(FACTS)
        small_rows([("e", "?x", "?y"), ("n", "?y"), ("e", "a", "?z")], groups, {}, 100)
        self.assertEqual(groups, by_shape(FACTS))

    def test_small_rows(self):
        self.assertEqual(self.found([], FACTS), [{}])
        self.assertEqual(self.found([("e", "?x", "?y"), ("n", "?y")], FACTS), [{"?x": "a", "?y": "b"}, {"?x": "b",
                                                                                                        "?y": "c"}])
        self.assertEqual(self.found([("n", "c"), ("n", "b")], FACTS), [{}])
        self.assertEqual(self.found([("n", "?x"), ("n", "a")], FACTS), [])
        self.assertEqual(self.found([("n", "?x"), ("e", "?x", "?x")], FACTS), [])

    def test_too_many_rows(self):
        lot = [("n", "?x"), ("n", "?y"), ("n", "?z")]
        self.assertEqual(len(self.found(lot, FACTS, most=8)), 8)
        self.assertIsNone(self.found(lot, FACTS, most=7))
        self.assertEqual(len(self.found(lot[:2], FACTS, most=7)), 4)
        way = [("e", "?x", "?y"), ("e", "?y", "?z")]
        with mock.patch.object(rows, "MOST_PAIRS", 0):
            self.assertEqual(len(self.found(way, FACTS, most=3)), 3)
            self.assertIsNone(self.found(way, FACTS, most=2))

    def test_near_patterns_come_first(self):
        # The lots with the fewest facts have no variable in common, so they must not be joined ahead of the third.
        facts = [*[("a", f"k{at}") for at in range(9)], *[("c", f"l{at}") for at in range(9)],
                 *[("b", f"k{at}", f"l{at}") for at in range(10)]]
        lot = [("a", "?x"), ("c", "?z"), ("b", "?x", "?z"), ("c", "?y")]
        self.assertEqual(len(self.found(lot[:3], facts, most=9)), 9)
        self.assertEqual(len(self.found(lot, facts, most=81)), 81)
        self.assertIsNone(self.found(lot, facts, most=80))

    def test_by_definition(self):
        terms = ["?a", "?b", "?c", "?d", "k", "l"]
        for seed in range(400):
            numbers = dice(seed)
            facts = sorted(set(some_lot(numbers, numbers.randint(0, 14), ["k", "l", "m"])))
            lot = some_lot(numbers, numbers.randint(0, 4), terms)
            known = {name: numbers.choice(["k", "l", "m"]) for name in ["?a", "?b"] if numbers.random() < 0.2}
            wanted = slow_maps(lot, set(facts), known)
            for pairs in [0, 5, 100]:
                with mock.patch.object(rows, "MOST_PAIRS", pairs):
                    found = [dict(sorted(one.items())) for one in self.found(lot, facts, known, 10 ** 9)]
                    self.assertEqual(sorted(told(found)), [list(one.items()) for one in wanted
                                                           if set(one) == set(known) | set(names_in(lot))])


class WithoutRows:
    """The tests of the quick way again, so that the slow one must do."""

    def setUp(self):
        for module, name in [(matching, "small_rows"), (closing, "joined_rows"), (closing, "rows_led"), (leads, "rows_led")]:
            without = mock.patch.object(module, name, lambda *_: None)
            without.start()
            self.addCleanup(without.stop)


class MapsWithoutRows(WithoutRows, test_matching.Maps):
    pass


class BetweenWithoutRows(WithoutRows, test_matching.Between):
    pass


class KeepingWithoutRows(WithoutRows, test_rules.Keeping):
    pass


class ClosingWithoutRows(WithoutRows, test_closing.Closing):
    pass


class GoingOnWithoutRows(WithoutRows, test_closing.GoingOn):
    pass


class PlaysWithoutRows(WithoutRows, test_games.Plays):
    pass


class LeadsWithoutRows(WithoutRows, test_leads.Leads):
    pass


class WaysWithoutRows(WithoutRows, test_shown.Ways):
    pass


class UnmetWithoutRows(WithoutRows, test_shown.Unmet):
    pass


class NeedlessWithoutRows(WithoutRows, test_thinning.Needless):
    pass


if __name__ == "__main__":
    unittest.main()
