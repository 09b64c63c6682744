import unittest

from fullestrows.errors import BadFact, BadLine
from fullestrows.facts import Store
from fullestrows.rules import Key, Rule
from values import ANY_VALUES

FACTS = [("town", "bob", "oslo"), ("age", "bob", "a30"), ("halt",), ("town", "ann", "rome")]
SORTED = (("age", "bob", "a30"), ("halt",), ("town", "ann", "rome"), ("town", "bob", "oslo"))


class Stores(unittest.TestCase):
    """Point 12."""

    def test_facts_ascending_and_once(self):
        self.assertEqual(Store(FACTS).facts, SORTED)
        self.assertEqual(Store(FACTS + FACTS).facts, SORTED)
        self.assertEqual(Store(tuple(FACTS)).facts, SORTED)
        self.assertIsInstance(Store(FACTS).facts, tuple)

    def test_facts_are_ordered_as_tuples(self):
        facts = [("b",), ("a", "b1"), ("a", "b", "c"), ("a", "b"), ("ab",), ("a",)]
        self.assertEqual(Store(facts).facts, (("a",), ("a", "b"), ("a", "b", "c"), ("a", "b1"), ("ab",), ("b",)))

    def test_no_facts(self):
        for store in [Store(), Store([]), Store(facts=())]:
            self.assertEqual([store.facts, len(store), list(store), store == Store()], [(), 0, [], True])

    def test_bad_facts(self):
        for value in [*ANY_VALUES, ("a", "?x"), ["a", "b"], "a(b)"]:
            with self.assertRaises(BadFact) as caught:
                Store([("a", "b"), value])
            self.assertIs(caught.exception.value, value)

    def test_first_bad_fact(self):
        with self.assertRaises(BadFact) as caught:
            Store([("a",), ("z", "?x"), None, ("a", "?x")])
        self.assertEqual(caught.exception.value, ("z", "?x"))

    def test_length_and_iteration(self):
        store = Store(FACTS)
        self.assertEqual(len(store), 4)
        self.assertEqual(tuple(store), SORTED)
        self.assertEqual([fact for fact in store], list(SORTED))

    def test_in(self):
        store = Store(FACTS)
        for fact in FACTS:
            self.assertIs(fact in store, True)
        for value in [*ANY_VALUES, ("town", "bob"), ["halt"], ("town", "?x", "oslo"), "halt", [("halt",)]]:
            self.assertIs(value in store, False, value)

    def test_equality(self):
        self.assertTrue(Store(FACTS) == Store(reversed_copy(FACTS)))
        self.assertFalse(Store(FACTS) != Store([*FACTS, FACTS[0]]))
        self.assertFalse(Store(FACTS) == Store(FACTS[1:]))
        self.assertTrue(Store(FACTS) != Store())

    def test_equal_to_nothing_else(self):
        others = [*ANY_VALUES, SORTED, list(SORTED), Key("a", 1, []), Rule([], ("a",)), "halt()"]
        for store in [Store(FACTS), Store(), Store([("a",)])]:
            for other in others:
                self.assertIs(store == other, False)
                self.assertIs(other == store, False)
                self.assertIs(store != other, True)

    def test_within(self):
        some, more = Store(FACTS[:2]), Store(FACTS)
        self.assertIs(some.within(more), True)
        self.assertIs(more.within(some), False)
        self.assertIs(more.within(more), True)
        self.assertIs(Store().within(some), True)
        self.assertIs(some.within(other=Store()), False)
        self.assertIs(Store([("x",)]).within(more), False)

    def test_never_changes(self):
        store = Store(FACTS)
        with self.assertRaises(AttributeError):
            store.facts = ()
        facts = [("a",)]
        kept = Store(facts)
        facts.append(("b",))
        self.assertEqual(kept.facts, (("a",),))


class TwoStores(unittest.TestCase):
    """Point 13."""

    def test_plus(self):
        one, other = Store(FACTS[:3]), Store(FACTS[2:])
        self.assertEqual((one + other).facts, SORTED)
        self.assertEqual(one + Store(), one)
        self.assertEqual((one.facts, other.facts), (Store(FACTS[:3]).facts, Store(FACTS[2:]).facts))

    def test_minus(self):
        one, other = Store(FACTS), Store([FACTS[0], ("x",)])
        self.assertEqual((one - other).facts, SORTED[:3])
        self.assertEqual(one - one, Store())
        self.assertEqual(one - Store(), one)
        self.assertEqual(Store() - one, Store())
        self.assertEqual(len(one), 4)

    def test_only_stores_are_added_and_taken_away(self):
        for other in [list(FACTS), FACTS[0], None, 1]:
            with self.assertRaises(TypeError):
                Store() + other
            with self.assertRaises(TypeError):
                Store() - other

    def test_constants(self):
        self.assertEqual(Store(FACTS).constants(), ["a30", "ann", "bob", "oslo", "rome"])
        self.assertEqual(Store([("halt",)]).constants(), [])
        self.assertEqual(Store([("a", "a", "b", "a")]).constants(), ["a", "b"])

    def test_constants_are_new(self):
        store = Store(FACTS)
        store.constants().clear()
        self.assertEqual(len(store.constants()), 5)

    def test_only(self):
        store = Store([*FACTS, ("town", "rome")])
        self.assertEqual(store.only(["town"]).facts,
                         (("town", "ann", "rome"), ("town", "bob", "oslo"), ("town", "rome")))
        self.assertEqual(store.only(("halt", "age", "halt", "none")).facts, SORTED[:2])
        self.assertEqual(store.only(tables=[]), Store())
        self.assertEqual(Store([("a", "rome")]).only(["rome"]), Store())


class StoreTexts(unittest.TestCase):
    """Point 14."""

    def test_text(self):
        self.assertEqual(Store(FACTS).text(), "age(bob,a30)\nhalt()\ntown(ann,rome)\ntown(bob,oslo)")
        self.assertEqual(Store([("halt",)]).text(), "halt()")
        self.assertEqual(Store().text(), "")

    def test_read(self):
        self.assertEqual(Store.read(""), Store())
        self.assertEqual(Store.read("halt()"), Store([("halt",)]))
        self.assertEqual(Store.read(text=Store(FACTS).text()), Store(FACTS))

    def test_read_compares_facts(self):
        text = "a()\na(b)\na(b,c)\na(b1)\nab()\nb()"
        self.assertEqual(Store.read(text).text(), text)

    def test_bad_lines(self):
        for text, line in [
                ("\n", 1), ("a()\n", 2), ("\na()", 1), ("a()\n\nb()", 2), ("a(?x)", 1), ("a()\nb(?x)", 2),
                ("a()\na()", 2), ("b()\na()", 2), ("a()\nb()\na()", 3), ("a(b,c)\na(b)", 2), ("a(b) ", 1), (" ", 1),
                ("a()\nb\nc", 2), ("a()\r\nb()", 1), ("a()\nc()\nb()\na(", 3), ("a() b()", 1), ("halt", 1),
                ("a(b1)\na(b,c)", 2), ("ab()\na(z)", 2)]:
            with self.subTest(text), self.assertRaises(BadLine) as caught:
                Store.read(text)
            self.assertEqual(caught.exception.line, line, text)


def reversed_copy(facts):
    return list(reversed(facts))


if __name__ == "__main__":
    unittest.main()
