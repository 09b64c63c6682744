import itertools
import unittest

from fullestrows.facts import (
    filled, is_fact, is_name, is_pattern, is_variable, pattern_text, read_pattern, variables_of,
)
from values import ANY_VALUES


class Names(unittest.TestCase):
    """Points 2 and 10: names and variables."""

    def test_names(self):
        for value in ["a", "z", "a0", "z9", "town", "abcdefghijkl", "a12345678901", "new1"]:
            self.assertIs(is_name(value), True, value)

    def test_lengths(self):
        self.assertIs(is_name("a" * 1), True)
        self.assertIs(is_name("a" * 12), True)
        self.assertIs(is_name("a" * 13), False)
        self.assertIs(is_name(""), False)

    def test_wrong_signs(self):
        for value in ["A", "aB", "0", "0a", "a_b", "a b", "a-b", "a\n", "\na", " a", "a ", "?a", "a?", "_", "`", "{",
                      "a.b", "a,b", "\u00e4", "a\u00e4", "a\u0661", "a\u00b2", "\uff41", "a\x00"]:
            self.assertIs(is_name(value), False, value)

    def test_variables(self):
        for value in ["?a", "?x1", "?" + "a" * 12, "?new1"]:
            self.assertIs(is_variable(value), True, value)

    def test_no_variables(self):
        for value in ["", "?", "a", "??a", "?1", "?A", "?" + "a" * 13, "? a", "?a ", "a?", "?a?", "?\u00e4"]:
            self.assertIs(is_variable(value), False, value)

    def test_any_value(self):
        self.assertEqual([value for value in ANY_VALUES if is_name(value)], ["a"])
        self.assertEqual([value for value in ANY_VALUES if is_variable(value)], ["?a"])


class Patterns(unittest.TestCase):
    """Points 2 and 10: patterns and facts."""

    def test_patterns(self):
        for value in [("halt",), ("a", "b"), ("a", "?b"), ("a", "b", "?c", "d"), ("a", "a", "a", "a"), ("a", "?a")]:
            self.assertIs(is_pattern(value), True, value)

    def test_number_of_terms(self):
        self.assertIs(is_pattern(()), False)
        self.assertIs(is_pattern(("t",)), True)
        self.assertIs(is_pattern(("t", "a", "b", "c")), True)
        self.assertIs(is_pattern(("t", "a", "b", "c", "d")), False)
        self.assertIs(is_fact(("t",)), True)
        self.assertIs(is_fact(("t", "a", "b", "c")), True)
        self.assertIs(is_fact(("t", "a", "b", "c", "d")), False)

    def test_table_is_a_name(self):
        for table in ["?t", "", "T", "a" * 13, 1, None, True, ("t",), ["t"]]:
            self.assertIs(is_pattern((table,)), False, table)
            self.assertIs(is_fact((table, "a")), False, table)

    def test_terms(self):
        for term in ["", "?", "A", "a b", "a" * 13, "?" + "a" * 13, 1, None, True, ("a",), ["a"], {}]:
            self.assertIs(is_pattern(("t", "a", term)), False, term)
            self.assertIs(is_fact(("t", term)), False, term)

    def test_only_tuples(self):
        self.assertIs(is_pattern(["t", "a"]), False)
        self.assertIs(is_fact(["t", "a"]), False)
        self.assertIs(is_pattern("t"), False)
        self.assertIs(is_fact({"t": "a"}), False)

    def test_facts_have_no_variables(self):
        self.assertIs(is_fact(("a", "b", "c")), True)
        self.assertIs(is_fact(("a", "b", "?c")), False)
        self.assertIs(is_fact(("a", "?b", "c", "d")), False)

    def test_any_value(self):
        for test in [is_pattern, is_fact]:
            for value in ANY_VALUES:
                self.assertIs(test(value), False, value)


class Lots(unittest.TestCase):
    """Point 11: variables_of and filled."""

    def test_variables_of(self):
        self.assertEqual(variables_of([]), [])
        self.assertEqual(variables_of([("a",), ("b", "c")]), [])
        self.assertEqual(variables_of([("t", "?z", "?a", "?z"), ("t", "b", "?m"), ("s", "?a")]), ["?a", "?m", "?z"])

    def test_order_is_that_of_strings(self):
        self.assertEqual(variables_of([("t", "?x2", "?x10", "?x")]), ["?x", "?x10", "?x2"])

    def test_filled(self):
        self.assertEqual(filled(("t", "?x", "?y", "?x"), {"?x": "a"}), ("t", "a", "?y", "a"))
        self.assertEqual(filled(("t", "?x"), {}), ("t", "?x"))
        self.assertEqual(filled(("t",), {"?x": "a"}), ("t",))
        self.assertEqual(filled(("x", "x", "?x"), {"?x": "a"}), ("x", "x", "a"))

    def test_filled_with_variables_at_once(self):
        self.assertEqual(filled(("t", "?x", "?y"), {"?x": "?y", "?y": "?x"}), ("t", "?y", "?x"))
        self.assertEqual(filled(("t", "?x", "?y"), {"?x": "?y", "?y": "a"}), ("t", "?y", "a"))


class Texts(unittest.TestCase):
    """Point 11: the text of a pattern and the way back."""

    def test_texts(self):
        for pattern, text in [(("halt",), "halt()"), (("age", "?x", "a30"), "age(?x,a30)"), (("a", "b"), "a(b)"),
                              (("t", "a", "?b", "c"), "t(a,?b,c)")]:
            self.assertEqual(pattern_text(pattern), text)
            self.assertEqual(read_pattern(text), pattern)

    def test_no_texts(self):
        for text in ["", "halt", "halt(", "halt)", "halt())", "halt(()", "()", "(a)", "a(b", "a(b))", "a((b)", "a(b,)",
                     "a(,b)", "a(,)", "a(b,,c)", "a(b, c)", "a( b)", "a(b )", " a(b)", "a(b) ", "a (b)", "a(b)\n",
                     "a(b)c", "a(b)(c)", "a(b,c,d,e)", "?a(b)", "A(b)", "a(B)", "a(?)", "a(??b)", "a(1)", "1(a)",
                     "a" * 13 + "()", "a(" + "b" * 13 + ")", "a(b)a(b)", "a\u00e4(b)", "a(b.c)", ")(", "a)b("]:
            self.assertIsNone(read_pattern(text), text)

    def test_all_short_texts(self):
        texts = {pattern_text((table, *terms)) for table in ["a", "b", "ab", "ba", "aa", "bb"]
                 for terms in [(), ("a",), ("b",), ("?a",), ("?b",), ("a", "a")]}
        for size in range(6):
            for signs in itertools.product("ab?(,)", repeat=size):
                text = "".join(signs)
                pattern = read_pattern(text)
                if pattern is not None:
                    self.assertTrue(is_pattern(pattern))
                    self.assertEqual(pattern_text(pattern), text)
                else:
                    self.assertNotIn(text, texts)


if __name__ == "__main__":
    unittest.main()
