import unittest

from fullestrows.errors import BadLine, Clash
from fullestrows.facts import Store, filled, is_fact, is_pattern, pattern_text, read_pattern, variables_of
from fullestrows.matching import (
    agree, count_maps, first_map, in_order, is_above, joined, map_between, maps, only_keys,
)
from fullestrows.rules import Key, Rule, broken, closed, keeps, store_of


class Examples(unittest.TestCase):
    """The examples of the interface."""

    def check(self, shown, wanted):
        """The text of what is shown is that of the document, the order of the keys included."""
        self.assertEqual(shown, wanted)
        self.assertEqual(repr(shown), repr(wanted))

    def test_facts(self):
        store = Store([("town", "ann", "rome"), ("age", "bob", "a30"), ("town", "ann", "rome")])
        self.check(
            [store.facts, len(store), ("age", "bob", "a30") in store, store.constants(), store.text()],
            [(('age', 'bob', 'a30'), ('town', 'ann', 'rome')), 2, True, ['a30', 'ann', 'bob', 'rome'],
             'age(bob,a30)\ntown(ann,rome)'])
        self.check(
            [is_pattern(("town", "?x", "rome")), is_fact(("town", "?x", "rome")), is_pattern(("?t", "a")),
             filled(("town", "?x", "?y"), {"?x": "ann"})],
            [True, False, False, ('town', 'ann', '?y')])
        self.check(
            [pattern_text(("town", "?x", "rome")), read_pattern("halt()"), read_pattern("town(?x, rome)")],
            ['town(?x,rome)', ('halt',), None])
        self.check(
            [variables_of([("town", "?x", "?y"), ("age", "?x", "a3")]), len(store - Store([("age", "bob", "a30")])),
             Store.read("halt()") == Store([("halt",)])],
            [['?x', '?y'], 1, True])
        with self.assertRaises(BadLine) as caught:
            Store.read("town(ann,rome)\nage(bob,a30)")
        self.assertEqual(caught.exception.line, 2)

    def test_matching(self):
        store = Store([("town", "ann", "rome"), ("town", "bob", "oslo"), ("mayor", "oslo", "eve")])
        self.check(
            [maps([("town", "?x", "?y")], store), first_map([("town", "?x", "?y"), ("mayor", "?y", "?z")], store)],
            [[{'?x': 'ann', '?y': 'rome'}, {'?x': 'bob', '?y': 'oslo'}], {'?x': 'bob', '?y': 'oslo', '?z': 'eve'}])
        self.check(
            [count_maps([("town", "?x", "rome")], store, {"?x": "bob"}),
             maps([("mayor", "oslo", "eve")], store, {"?x": "ann"}), maps([], store)],
            [0, [{'?x': 'ann'}], [{}]])
        self.check(
            [map_between([("a", "?x", "?y")], [("a", "?z", "?z")]),
             map_between([("a", "?x", "b")], [("a", "?z", "?z")]),
             agree({"?x": "a"}, {"?x": "a", "?y": "b"})],
            [{'?x': '?z', '?y': '?z'}, None, True])
        self.check(
            [joined({"?x": "a"}, {"?w": "b"}), is_above({"?x": "a"}, {}),
             only_keys({"?x": "a", "?y": "b"}, ["?y", "?z"]), in_order([{"?x": "b"}, {"?w": "c"}, {"?x": "b"}])],
            [{'?w': 'b', '?x': 'a'}, True, {'?y': 'b'}, [{'?w': 'c'}, {'?x': 'b'}]])

    def test_rules(self):
        one_town = Key("town", 2, [0])
        known = Rule([("mayor", "?t", "?m")], ("person", "?m"))
        store = Store([("mayor", "oslo", "eve"), ("town", "ann", "oslo"), ("town", "ann", "rome")])
        self.check(
            [broken(store, [one_town, known]), broken(store, [known]), keeps(store, [])],
            [(0, [('town', 'ann', 'oslo'), ('town', 'ann', 'rome')]), (0, [('mayor', 'oslo', 'eve')]), True])
        self.check(
            closed([("town", "?x", "?y"), ("town", "?x", "rome"), ("mayor", "?y", "?z")], [one_town, known]),
            ([('mayor', 'rome', '?z'), ('person', '?z'), ('town', '?x', 'rome')],
             {'?x': '?x', '?y': 'rome', '?z': '?z'}))
        store, names = store_of([("mayor", "rome", "?z"), ("town", "?x", "new1")])
        self.check(
            [store.facts, names],
            [(('mayor', 'rome', 'new3'), ('town', 'new2', 'new1')), {'?x': 'new2', '?z': 'new3'}])
        with self.assertRaises(Clash):
            closed([("town", "?x", "oslo"), ("town", "?x", "rome")], [one_town])


if __name__ == "__main__":
    unittest.main()
