import unittest

from fullestrows.errors import BadNames, BadNode, BadNodes, BadPart, BadPattern, BadText, Loose, NothingNew
from fullestrows.facts import Store
from fullestrows.questions import Question
from fullestrows.rules import Key, Rule
from values import ANY_VALUES, dice, given, names_in, slow_next, slow_parts, some_question

TREE = [(None, [("a", "?x")]), (0, [("b", "?x", "?y"), ("a", "?x")]), (1, [("c", "?y", "?z")]), (0, [("d", "?x",
                                                                                                      "?u")])]
WIDE = [(None, [("a", "?a")]), (0, [("b", "?a", "?b")]), (0, [("b", "?a", "?c")]), (1, [("c", "?b", "?d")]),
        (2, [("c", "?c", "?e")]), (1, [("d", "?a", "?b", "?f")])]


class Questions(unittest.TestCase):
    """Points 4, 40 and 41."""

    def test_nodes(self):
        question = Question(TREE)
        self.assertEqual(question.nodes, [
            (None, [("a", "?x")]), (0, [("a", "?x"), ("b", "?x", "?y")]), (1, [("c", "?y", "?z")]),
            (0, [("d", "?x", "?u")])])
        self.assertEqual(len(question), 4)
        self.assertIsInstance(question.nodes, list)
        self.assertTrue(all(isinstance(node, tuple) and isinstance(node[1], list) for node in question.nodes))

    def test_patterns_are_ascending_and_once(self):
        lot = [("b", "?x"), ("a", "?y", "k"), ("b", "?x"), ("a", "?y"), ("b", "k")]
        self.assertEqual(Question([(None, lot)]).nodes, [(None, [("a", "?y"), ("a", "?y", "k"), ("b", "?x"), ("b",
                                                                                                              "k")])])
        self.assertEqual(Question([(None, lot)]), Question([(None, lot[::-1])]))

    def test_one_node(self):
        question = Question([(None, [("a",)])])
        self.assertEqual([len(question), question.parts(), question.variables(), question.new_variables(0)],
                         [1, [(0,)], [], []])

    def test_first_node_without_patterns(self):
        question = Question([(None, []), (0, [("a", "?x")])])
        self.assertEqual(question.nodes, [(None, []), (0, [("a", "?x")])])
        self.assertEqual([question.variables((0,)), question.part_with([]), question.part_with(["?x"])],
                         [[], (0,), (0, 1)])
        self.assertEqual(len(Question([(None, [])])), 1)

    def test_tuples_for_lists(self):
        self.assertEqual(Question(tuple((parent, tuple(lot)) for parent, lot in TREE)), Question(TREE))

    def test_bad_nodes(self):
        lot = [("a", "?x")]
        more = [("b", "?x", "?y")]
        wrong = [
            [], (), [None], [(None,)], [(None, lot, lot)], [[None, lot]], [(None, ("a",), 1)], [(0, lot)], [(False,
                                                                                                             lot)],
            [(None, "a")], [(None, {})], [(None, None)], [(None, lot), (None, more)], [(None, lot), (1, more)],
            [(None, lot), (2, more)], [(None, lot), (-1, more)], [(None, lot), (False, more)], [(None, lot), ("0",
                                                                                                              more)],
            [(None, lot), (0, more), (True, [("c", "?z")])], [(None, lot), [0, more]], [(None, lot), (0, more), (0,)],
            {0: (None, lot)}, "a", [(None, lot), ((0,), more)], [(None, lot), (None,)], [(None, lot), None],
        ]
        for value in [*wrong, *ANY_VALUES]:
            with self.subTest(value), self.assertRaises(BadNodes):
                Question(value)

    def test_bad_pattern(self):
        for value in [*ANY_VALUES, ("a", "?X"), ["a", "?x"], ("?a", "b")]:
            if value == ("a", "b"):
                continue
            with self.subTest(value), self.assertRaises(BadPattern) as caught:
                Question([(None, [("a", "?x")]), (0, [("b", "?x", "?y"), value])])
            self.assertIs(caught.exception.value, value)

    def test_first_bad_pattern(self):
        with self.assertRaises(BadPattern) as caught:
            Question([(None, [("a", "?x")]), (0, [("b", "?x"), 3, 4]), (0, [5])])
        self.assertEqual(caught.exception.value, 3)

    def test_loose(self):
        for nodes, name in [
            ([(None, [("a", "?x")]), (0, [("b", "?y")]), (1, [("c", "?x", "?z")])], "?x"),
            ([(None, [("a", "?x")]), (0, [("b", "?y")]), (0, [("c", "?y", "?z")])], "?y"),
            ([(None, [("a", "?x")]), (0, [("b", "?z")]), (0, [("c", "?z"), ("d", "?u")]), (2, [("b", "?x", "?v")])],
             "?x"),
            ([(None, [("a", "?x")]), (0, [("b", "?x", "?z")]), (0, [("c", "?z"), ("d", "?u")]), (1, [("b", "?u")])],
             "?u"),
            ([(None, []), (0, [("b", "?z")]), (0, [("b", "?z")])], "?z"),
        ]:
            with self.subTest(nodes), self.assertRaises(Loose) as caught:
                Question(nodes)
            self.assertEqual(caught.exception.variable, name)

    def test_nothing_new(self):
        for nodes, index in [
            ([(None, [("a", "?x")]), (0, [("b", "?x")])], 1),
            ([(None, [("a", "?x")]), (0, [])], 1),
            ([(None, []), (0, [("a", "k")])], 1),
            ([(None, [("a", "?x")]), (0, [("b", "?x", "?y")]), (1, [("b", "?y")]), (0, [("a", "?x")])], 2),
            ([(None, [("a", "?x", "?w")]), (0, [("b", "?x", "?y")]), (1, [("b", "?x")])], 2),
        ]:
            with self.subTest(nodes), self.assertRaises(NothingNew) as caught:
                Question(nodes)
            self.assertEqual(caught.exception.index, index)

    def test_order_of_errors(self):
        with self.assertRaises(BadNodes):
            Question([(None, [3]), (0, [4]), (7, [])])
        with self.assertRaises(BadPattern):
            Question([(None, [("a", "?x")]), (0, []), (1, [("a", "?x")]), (0, [None])])
        with self.assertRaises(Loose):
            Question([(None, [("a", "?x")]), (0, [("a", "k")]), (1, [("a", "?x")])])

    def test_hanging_together_by_definition(self):
        numbers = dice(40)
        seen = {"kept": 0, "loose": 0, "nothing new": 0}
        for _ in range(1500):
            nodes = [(numbers.randrange(at) if at else None,
                      [("a", *numbers.choices(["?x", "?y", "?z", "?w"], k=2)) for _ in range(numbers.randint(1, 2))])
                     for at in range(numbers.randint(1, 4))]
            names = [names_in(lot) for _, lot in nodes]
            apart = [name for name in names_in([p for _, lot in nodes for p in lot]) if not hangs(name, nodes, names)]
            same = [at for at in range(1, len(nodes)) if not set(names[at]) - set(names[nodes[at][0]])]
            if apart:
                seen["loose"] += 1
                with self.assertRaises(Loose) as caught:
                    Question(nodes)
                self.assertEqual(caught.exception.variable, apart[0])
            elif same:
                seen["nothing new"] += 1
                with self.assertRaises(NothingNew) as caught:
                    Question(nodes)
                self.assertEqual(caught.exception.index, same[0])
            else:
                seen["kept"] += 1
                self.assertEqual(len(Question(nodes)), len(nodes))
        self.assertGreater(min(seen.values()), 50)

    def test_equality(self):
        self.assertTrue(Question(TREE) == Question([(parent, lot[::-1]) for parent, lot in TREE]))
        self.assertTrue(Question(TREE) != Question(TREE[:3]))
        self.assertTrue(Question(WIDE) != Question([*WIDE[:5], (0, [("d", "?a", "?g", "?f")])]))
        self.assertTrue(Question(TREE) != Question([*TREE[:3], (0, [("d", "?x", "?w")])]))
        self.assertTrue(Question([(None, [])]) != Question([(None, [("a",)])]))
        # The same patterns beneath another parent.
        one = [(None, [("a", "?x")]), (0, [("b", "?x", "?y")]), (0, [("c", "?x", "?z")])]
        self.assertTrue(Question(one) != Question([*one[:1], one[1], (1, [("c", "?x", "?z")])]))

    def test_equal_to_nothing_else(self):
        for other in [*ANY_VALUES, TREE, Question(TREE).text(), Store(), Key("a", 1, []), Rule([], ("a",))]:
            self.assertIs(Question(TREE) == other, False)
            self.assertIs(other == Question(TREE), False)

    def test_new_variables(self):
        question = Question(TREE)
        self.assertEqual([question.new_variables(node) for node in range(4)], [["?x"], ["?y"], ["?z"], ["?u"]])
        several = Question([(None, [("a", "?c", "?a")]), (0, [("b", "?c", "?d", "?b")])])
        self.assertEqual([several.new_variables(0), several.new_variables(1)], [["?a", "?c"], ["?b", "?d"]])

    def test_bad_node(self):
        for value in [*ANY_VALUES, 4, -1, (0,), [0]]:
            if value in (0, 1, 2) and not isinstance(value, bool):
                continue
            with self.subTest(value), self.assertRaises(BadNode) as caught:
                Question(TREE).new_variables(value)
            self.assertIs(caught.exception.index, value)

    def test_questions_never_change(self):
        nodes = [(None, [("a", "?x")]), (0, [("b", "?x", "?y")])]
        question = Question(nodes)
        text = question.text()
        nodes[1][1].append(("c", "?z"))
        nodes.append((0, [("c", "?u")]))
        for several in [question.nodes, question.nodes[1][1], question.parts(), question.variables(),
                        question.patterns(), question.next_nodes((0,)), question.new_variables(0)]:
            several.clear()
        question.renamed({"?x": "?q"})
        self.assertEqual([question.text(), len(question), question.variables(), question.new_variables(0)],
                         [text, 2, ["?x", "?y"], ["?x"]])
        with self.assertRaises(AttributeError):
            question.nodes = []


def hangs(name, nodes, names):
    """Whether on the way between any two nodes with a variable each node has it."""
    def up(at):
        return [at] if at == 0 else [at, *up(nodes[at][0])]
    having = [at for at in range(len(nodes)) if name in names[at]]
    for one in having:
        for other in having:
            mine, others = up(one), up(other)
            # The way goes up from both to the first node that is above both.
            meet = next(at for at in mine if at in others)
            way = [*mine[:mine.index(meet) + 1], *others[:others.index(meet)]]
            if any(name not in names[at] for at in way):
                return False
    return True


class Parts(unittest.TestCase):
    """Points 42 and 43."""

    def test_is_part(self):
        question = Question(TREE)
        for value in [(0,), (0, 1), (0, 3), (0, 1, 2), (0, 1, 3), (0, 1, 2, 3)]:
            self.assertIs(question.is_part(value), True)
        for value in [*ANY_VALUES, (), (1,), (0, 2), (0, 2, 3), (1, 0), (0, 0), (0, 1, 1), (0, 3, 1), [0], [0, 1], (0,
                                                                                                                    4),
                      (0, -1), (False,), (0, True), (False, 1), (None,), (0, "1"), (0, (1,)), (0, [1]), {0: 1}, 0,
                      (-4,)]:
            self.assertIs(question.is_part(value), False, value)

    def test_parts(self):
        self.assertEqual(Question(TREE).parts(), [(0,), (0, 1), (0, 1, 2), (0, 1, 2, 3), (0, 1, 3), (0, 3)])

    def test_parts_by_definition(self):
        numbers = dice(42)
        for size in [1, 1, 2, 3, 4, 5, 6] * 20:
            question = some_question(numbers, size)
            parts = slow_parts(question.nodes)
            self.assertEqual(question.parts(), parts)
            for part in parts:
                self.assertEqual(question.next_nodes(part), slow_next(question.nodes, part))
                lot = [pattern for node in part for pattern in question.nodes[node][1]]
                self.assertEqual(question.patterns(part), sorted(set(lot)))
                self.assertEqual(question.variables(part), names_in(lot))
                self.assertEqual(question.part_with(names_in(lot)), part)
                self.assertTrue(question.is_part(part))

    def test_six_nodes(self):
        question = Question(WIDE)
        self.assertEqual(len(question.parts()), (1 + 2 * 2) * (1 + 2))
        self.assertEqual(question.next_nodes((0, 1, 5)), [2, 3])
        self.assertEqual(question.next_nodes((0, 1, 2, 3, 4, 5)), [])
        self.assertEqual(question.variables(), ["?a", "?b", "?c", "?d", "?e", "?f"])

    def test_all_nodes(self):
        question = Question(TREE)
        for part in [(0, 1, 2, 3), None]:
            self.assertEqual(question.variables(part), ["?u", "?x", "?y", "?z"])
            self.assertEqual(question.patterns(part),
                             [("a", "?x"), ("b", "?x", "?y"), ("c", "?y", "?z"), ("d", "?x", "?u")])
        self.assertEqual([question.variables(), question.patterns()], [question.variables(None),
                                                                       question.patterns(None)])

    def test_bad_part(self):
        question = Question(TREE)
        for value in [*ANY_VALUES, (0, 2), [0], (1,), (False,), (0, True), (0, 1, 1)]:
            for asked in [question.next_nodes, question.variables, question.patterns]:
                if value is None and asked != question.next_nodes:
                    continue
                with self.subTest(value), self.assertRaises(BadPart) as caught:
                    asked(value)
                self.assertIs(caught.exception.part, value)

    def test_part_with(self):
        question = Question(TREE)
        self.assertEqual(question.part_with(["?y", "?x", "?u"]), (0, 1, 3))
        self.assertEqual(question.part_with(["?u", "?x", "?u", "?x", "?x"]), (0, 3))
        self.assertEqual(question.part_with(("?x",)), (0,))
        for names in [[], ["?y"], ["?x", "?z"], ["?x", "?w"], ["?x", "?y", "?w"], ["?w"], ["?u", "?y"]]:
            self.assertIsNone(question.part_with(names))

    def test_part_with_some_of_the_new_variables(self):
        question = Question([(None, [("a", "?a", "?b")]), (0, [("b", "?a", "?c", "?d")])])
        for names in [["?a"], ["?b"], ["?a", "?b", "?c"], ["?a", "?b", "?d"], []]:
            self.assertIsNone(question.part_with(names))
        self.assertEqual(question.part_with(["?d", "?c", "?b", "?a"]), (0, 1))


class Texts(unittest.TestCase):
    """Point 44."""

    def check(self, nodes, lines):
        text = "\n".join(lines)
        self.assertEqual(Question(nodes).text(), text)
        self.assertEqual(Question.read(text).text(), text)

    def test_texts(self):
        self.check(TREE, ["a(?x)", " a(?x) b(?x,?y)", "  c(?y,?z)", " d(?x,?u)"])
        self.check([(None, [])], ["-"])
        self.check([(None, []), (0, [("a", "?x"), ("a",)])], ["-", " a() a(?x)"])
        self.check(WIDE, ["a(?a)", " b(?a,?b)", "  c(?b,?d)", "  d(?a,?b,?f)", " b(?a,?c)", "  c(?c,?e)"])

    def test_read(self):
        self.assertEqual(Question.read("a(?x)\n a(?x) b(?x,?y)\n  c(?y,?z)\n d(?x,?u)"), Question(TREE))
        # The nodes have the numbers of their lines.
        turned = [WIDE[0], WIDE[1], (1, WIDE[3][1]), (1, WIDE[5][1]), WIDE[2], (4, WIDE[4][1])]
        self.assertEqual(Question.read(Question(WIDE).text()), Question(turned))
        self.assertEqual(Question.read("-"), Question([(None, [])]))
        self.assertEqual(Question.read("a()"), Question([(None, [("a",)])]))

    def test_read_again(self):
        numbers = dice(44)
        for size in [1, 2, 3, 4, 5, 6] * 20:
            text = some_question(numbers, size, root=numbers.random() < 0.7).text()
            self.assertEqual(Question.read(text).text(), text)
            self.assertEqual(sorted(Question.read(text).parts()), Question.read(text).parts())

    def test_long_texts(self):
        lines = ["-", *[" a(?x" + str(at) + ")" for at in range(100, 250)]]
        question = Question.read("\n".join(lines))
        self.assertEqual([len(question), question.text()], [151, "\n".join(lines)])
        self.assertEqual(question.next_nodes((0, 5)), [at for at in range(1, 151) if at != 5])
        deep = [" " * at + f"a(?v{at})" for at in range(50)]
        self.assertEqual(len(Question.read("\n".join(deep)).parts()), 50)
        self.assertEqual(Question.read("\n".join(deep)).text(), "\n".join(deep))

    def test_bad_texts(self):
        for text in [
            "", "\n", " ", "a", "a(?x", "a(?x)\n", "\na(?x)", " a(?x)", "a(?x) ", "a(?x)  b(?x)", "a(?x)\nb(?y)",
            "a(?x)\n  b(?y)", "a(?x)\n b(?y)\n   c(?z)", "a(?x)\n b(?y)\nc(?z)", "a(?x)\n b(?y) ", "a(?x)\n\n b(?y)",
            "b(?x) a(?x)", "a(?x) a(?x)", "a(?x)\n b(?y) b(?x)", "a(?x)\n b(?y) b(?y)", "- a(?x)", "a(?x) -", "--",
            "- ",
            " -", "-\n -", "a(?x)\n -", "-\n-", "-\n a(?x)\n -", "-\n", "a(?x)\n b(?x)", "a(?x)\n a(k)",
            "a(?x)\n b(?y)\n  c(?x,?z)",
            "-\n a(?x)\n b(?x)", "a(?x), b(?x)", "a(?x)\n\tb(?y)", "a(?X)", "a(?x,)", "a(?x)\r\n b(?y)", "a(?x)b(?y)",
            "A()",
            "a(?x)\n b(?y)\n ", "a(?x)\n b(?y)\n  ", "a(?a,?b,?c,?d)", "?x", "(a)", "a(?x)\n  b(?x,?y)\n b(?x,?z)",
        ]:
            with self.subTest(text), self.assertRaises(BadText):
                Question.read(text)

    def test_spoiled_texts(self):
        # A text is read only if it is the text of what has been read.
        numbers = dice(45)
        good = 0
        for _ in range(400):
            text = list(some_question(numbers, numbers.randint(1, 4)).text())
            at = numbers.randrange(len(text))
            text[at:at + numbers.randint(0, 1)] = numbers.choice(["", " ", "\n", "a", "(", ")", ",", "?", "-", "x"])
            try:
                self.assertEqual(Question.read("".join(text)).text(), "".join(text))
                good += 1
            except BadText:
                pass
        self.assertTrue(20 < good < 380)


class Renaming(unittest.TestCase):
    """Point 45."""

    def test_renamed(self):
        question = Question(TREE)
        self.assertEqual(question.renamed({"?y": "?b", "?x": "?c"}).text(),
                         "a(?c)\n a(?c) b(?c,?b)\n  c(?b,?z)\n d(?c,?u)")
        self.assertEqual(question.renamed({}), question)
        self.assertEqual(question.text(), Question(TREE).text())

    def test_exchanged(self):
        question = Question(TREE).renamed({"?x": "?z", "?z": "?x"})
        self.assertEqual(question.text(), "a(?z)\n a(?z) b(?z,?y)\n  c(?y,?x)\n d(?z,?u)")
        turned = Question(TREE).renamed({"?x": "?y", "?y": "?z", "?z": "?u", "?u": "?x"})
        self.assertEqual(turned.text(), "a(?y)\n a(?y) b(?y,?z)\n  c(?z,?u)\n d(?y,?x)")

    def test_patterns_are_in_order_again(self):
        question = Question([(None, [("a", "?x"), ("a", "?y")])]).renamed({"?x": "?z"})
        self.assertEqual(question.nodes, [(None, [("a", "?y"), ("a", "?z")])])

    def test_other_variables_in_the_dict(self):
        self.assertEqual(Question(TREE).renamed({"?q": "?x", "?r": "?x"}), Question(TREE))
        self.assertEqual(Question(TREE).renamed({"?q": "?r", "?x": "?x"}), Question(TREE))

    def test_bad_names(self):
        wrong = [
            {"?x": "?y"}, {"?x": "?q", "?y": "?q"}, {"?x": "?y", "?y": "?z"}, {"?u": "?z"}, {"?x": "k"}, {"x": "?x"},
            {"?x": "x"}, {"?x": None}, {None: "?x"}, {0: "?x"}, {("?x",): "?y"}, {"?x": ["?q"]}, {"?x": ("?q",)},
            {"?q": "q"}, {"q": "?q"}, {"?x": "?X"}, {"?x": ""}, [("?x", "?q")], (("?x", "?q"),),
        ]
        for value in [*wrong, *[value for value in ANY_VALUES if value != {}]]:
            with self.subTest(value), self.assertRaises(BadNames):
                Question(TREE).renamed(value)

    def test_renamed_by_definition(self):
        numbers = dice(46)
        for _ in range(200):
            question = some_question(numbers, numbers.randint(1, 5))
            old = numbers.sample(["?x", "?y", "?z", "?w", "?q", "?p"], 4)
            names = dict(zip(old, numbers.choices(["?x", "?y", "?z", "?w", "?q", "?p"], k=4)))
            mine = question.variables()
            if len({names.get(name, name) for name in mine}) == len(mine):
                wanted = [(parent, sorted(given(p, names) for p in lot)) for parent, lot in question.nodes]
                self.assertEqual(question.renamed(names).nodes, wanted)
            else:
                with self.assertRaises(BadNames):
                    question.renamed(names)


if __name__ == "__main__":
    unittest.main()
