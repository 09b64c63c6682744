"""The ways of searching behind points 20, 21 and 31 to 33: what they leave out and what they count."""

import unittest

from fullestrows.facts import by_shape
from fullestrows.joins import cheapest, ways_to
from fullestrows.search import groups, is_tree
from fullestrows.tables import fixed, ready, settled, tables_for


def scopes(*several):
    """Tables with these names and no rows, for what looks at the names only."""
    return [(tuple(names), []) for names in several]


class Tables(unittest.TestCase):
    def test_tables_for(self):
        lot = [("e", "?y", "?x"), ("e", "?x", "?x"), ("e", "?y", "?x"), ("n", "k")]
        facts = by_shape([("e", "a", "a"), ("e", "a", "b"), ("n", "k")])
        self.assertEqual(tables_for(lot, facts, {}), [
            (("?x",), [("a",)]), (("?x", "?y"), [("a", "a"), ("b", "a")]), ((), [()])])
        self.assertEqual(tables_for(lot, facts, {"?x": "b"}), [((), []), (("?y",), [("a",)]), ((), [()])])

    def test_settled_drops_rows_without_partners(self):
        one = (("?x", "?y"), [("a", "b"), ("b", "c"), ("c", "d")])
        other = (("?y", "?z"), [("b", "c"), ("c", "d"), ("d", "e")])
        third = (("?z",), [("d",)])
        self.assertEqual(settled([one, other, third], [0, 1, 2]), [
            (("?x", "?y"), [("b", "c")]), (("?y", "?z"), [("c", "d")]), third])
        self.assertIsNone(settled([one, other, (("?z",), [("x",)])], [2]))

    def test_settled_goes_on_from_table_to_table(self):
        way = [(("?w",), [("b",)]), (("?w", "?x"), [("a", "a"), ("b", "b")]), (("?x", "?y"), [("a", "a"), ("b", "b")]),
               (("?y", "?z"), [("a", "a"), ("b", "b")])]
        self.assertEqual([rows for _, rows in settled(way, [0])], [[("b",)], [("b", "b")], [("b", "b")], [("b", "b")]])

    def test_ready_leaves_out_tables_without_names(self):
        self.assertEqual(ready([((), [()]), (("?x",), [("a",)])]), [(("?x",), [("a",)])])
        self.assertIsNone(ready([((), []), (("?x",), [("a",)])]))
        self.assertEqual(ready([]), [])

    def test_fixed(self):
        tables = [(("?x", "?y"), [("a", "b"), ("b", "c")]), (("?x",), [("a",), ("b",)]), (("?y",), [("b",), ("c",)])]
        self.assertEqual(fixed(tables, "?x", "b"), [(("?y",), [("c",)]), (("?y",), [("c",)])])


class Names(unittest.TestCase):
    def test_groups(self):
        one, other, third, last = scopes("ab", "cd", "bc", "e")
        self.assertEqual(groups([one, other, last]), [[one], [other], [last]])
        self.assertEqual(groups([one, other, last, third]), [[last], [one, other, third]])
        self.assertEqual(groups([]), [])

    def test_trees(self):
        for several in [(), ("a",), ("ab", "bc", "cd"), ("ab", "ac", "ad"), ("abc", "ab", "bc", "ac"), ("ab", "ab"),
                        ("abc", "bcd", "cde"), ("ab", "cd"), ("abc", "ade", "bfg")]:
            self.assertTrue(is_tree(scopes(*several)), several)

    def test_no_trees(self):
        for several in [("ab", "bc", "ac"), ("ab", "bc", "cd", "ad"), ("ab", "bc", "ac", "ef"), ("abc", "cde", "aef"),
                        ("ab", "bc", "ac", "xa")]:
            self.assertFalse(is_tree(scopes(*several)), several)


class Ways(unittest.TestCase):
    def test_cheapest(self):
        several = [(("a", "b"), {}), (("b", "c"), {}), (("c", "d"), {})]
        self.assertEqual(cheapest(several, []), "a")
        self.assertEqual(cheapest(several, ["a"]), "d")
        self.assertEqual(cheapest(several, ["a", "d"]), "b")
        self.assertIsNone(cheapest(several, ["a", "b", "c", "d"]))

    def test_ways_to(self):
        one = (("?x", "?y"), [("a", "b"), ("a", "c"), ("b", "c")])
        other = (("?y", "?z"), [("b", "k"), ("c", "k"), ("c", "l")])
        self.assertEqual(ways_to([one, other], []), {(): 5})
        self.assertEqual(ways_to([one, other], ["?x"]), {("a",): 3, ("b",): 2})
        self.assertEqual(ways_to([one, other], ["?z", "?x"]), {
            ("k", "a"): 2, ("l", "a"): 1, ("k", "b"): 1, ("l", "b"): 1})
        self.assertEqual(ways_to([], []), {(): 1})
        self.assertEqual(ways_to([one, ((), [])], ["?x"]), {})


if __name__ == "__main__":
    unittest.main()
