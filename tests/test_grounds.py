"""The grounds of the parts of questions (point 32), and what questions keep of what has been found out about them."""

import unittest
from unittest import mock

from fullestrows import leads, questions
from fullestrows.errors import Clash
from fullestrows.grounds import course_of, ground_of, is_quiet, terms_at
from fullestrows.questions import Question
from fullestrows.rules import Key, Rule, book_of
from fullestrows.shown import part_of, ways
from small import SHAPES, some_rules
from values import dice, names_in, slow_closed, slow_lot, slow_parts, some_question


class Grounds(unittest.TestCase):
    def check(self, question, rules):
        """Compares the ground of each part with the definition; tells whether the course is quiet."""
        book = book_of(rules)
        for part in slow_parts(question.nodes):
            lot = slow_lot(question.nodes, part)
            ground = ground_of(course_of(question, book), part)
            try:
                patterns, terms = slow_closed(lot, rules, dice(0))
            except Clash:
                self.assertIsNone(ground)
                continue
            self.assertEqual(sorted(ground.present), patterns)
            self.assertEqual(terms_at(ground, names_in(lot)), terms)
            self.assertEqual(sorted(pattern for rows in ground.groups().values() for pattern in rows), patterns)
        return is_quiet(question.all_lots(), book)

    def test_nothing_follows(self):
        question = Question.read("a(?x)\n b(?x,?y)\n b(?x,?z)")
        self.assertIs(self.check(question, []), True)
        self.assertIs(self.check(question, [Key("b", 2, [1]), Rule([("b", "?p", "?p")], ("c", "?p"))]), True)
        self.assertIs(self.check(question, [Key("b", 2, [0])]), False)
        # What follows stands in the first node, which is in all parts.
        self.assertIs(self.check(question, [Rule([("b", "?p", "?q")], ("a", "?p"))]), True)

    def test_what_follows_is_in_another_part(self):
        question = Question.read("a(?x)\n b(?x) c(?x,?y)\n d(?x,?z)")
        self.assertIs(self.check(question, [Rule([("a", "?p")], ("b", "?p"))]), False)
        self.assertIs(self.check(question, [Rule([], ("b", "k"))]), False)
        self.assertIs(self.check(question, [Rule([("d", "?p", "?q")], ("b", "?p"))]), False)

    def test_what_follows_from_many_rows(self):
        many = Rule([("e", "?p"), ("e", "?q"), ("e", "?r")], ("f", "?p"))
        lot = [("e", f"?a{at}") for at in range(8)]
        nodes = [(None, lot), (0, [("g", "?a0", "?y")]), (0, [("g", "?a1", "?z"), *[("f", one) for _, one in lot]])]
        for rules in [[many], [many, Key("g", 2, [1])], [Key("f", 1, []), many]]:
            self.assertIs(self.check(Question(nodes), rules), False)
            self.assertIs(self.check(Question([(None, [*nodes[0][1], *nodes[2][1]]), nodes[1]]), rules), False)

    def test_clash(self):
        question = Question.read("a(?x,k)\n a(?x,m) b(?x,?y)\n  b(?y,?z)\n b(?x,?w)")
        self.assertIs(self.check(question, [Key("a", 2, [0])]), False)
        self.assertIs(self.check(question, [Key("a", 2, []), Key("b", 2, [1])]), False)

    def test_by_definition(self):
        for most in [0, 200]:
            numbers = dice(most)
            seen = {True: 0, False: 0}
            with mock.patch.object(leads, "MOST_LED", most):
                for _ in range(250):
                    question = some_question(numbers, numbers.randint(1, 5), ("k", "m"), numbers.random() < 0.9, SHAPES)
                    seen[self.check(question, some_rules(numbers, 4))] += 1
            self.assertGreater(min(seen.values()), 60)


class Kept(unittest.TestCase):
    def test_courses(self):
        question = Question.read("a(?x)\n b(?x,?y)")
        book = book_of([Key("b", 2, [0])])
        self.assertIs(course_of(question, book), course_of(question, book_of([Key("b", 2, [0])])))
        self.assertIsNot(course_of(question, book), course_of(question, book_of([Key("b", 2, [1])])))
        self.assertIsNot(course_of(question, book), course_of(Question(question.nodes), book))

    def test_rules_are_told_apart(self):
        several = [[], [Key("b", 2, [0])], [Key("b", 2, [1])], [Key("b", 2, [])], [Key("b", 1, [0])], [Key("a", 2, [0])],
                   [Rule([("a", "?p")], ("c", "?p"))], [Rule([("a", "?q")], ("c", "?q"))], [Rule([], ("c", "k"))],
                   [Rule([("b", "?p", "?q")], ("c", "?p"))], [Rule([("b", "?p", "?q")], ("c", "?q"))],
                   [Rule([("a", "?p")], ("c", "?p")), Key("b", 2, [0])], [Rule([("a", "?p"), ("a", "?p")], ("c", "?p"))]]
        told = [book_of(rules).told for rules in several]
        for at, one in enumerate(told):
            self.assertEqual(one, book_of(list(several[at])).told)
            self.assertNotIn(one, told[:at])

    def test_not_too_much_is_kept(self):
        question = Question.read("a(?x)\n b(?x,?y)")
        for at in range(50):
            rules = [Rule([("a", "?p")], ("b", "?p", f"k{at}"))]
            self.assertIs(part_of([question], [Question.read(f"a(?x) b(?x,k{at})")], ["?x"], rules=rules), True)
            self.assertIs(part_of([question], [Question.read(f"a(?x) b(?x,k{at + 1})")], ["?x"], rules=rules), False)
        self.assertLessEqual(len(question._courses), questions.MOST_RULES_KEPT)
        for at in range(3 * questions.MOST_KEPT):
            self.assertIsNone(question.aim_at((f"?v{at}",)))
            self.assertIsNone(question.place_having(("?x", f"?v{at}")))
            self.assertEqual(question.aim_at(("?y",)).part, (0, 1))
            self.assertEqual(question.place_having(("?x",)).part, (0,))
        self.assertLessEqual(len(question._aims), questions.MOST_KEPT)
        self.assertLessEqual(len(question._having), questions.MOST_KEPT)
        wide = Question([(None, [("a", "?x")]), *[(0, [("b", "?x", f"?y{at}")]) for at in range(10)]])
        self.assertEqual([len(wide.parts()), len(wide.parts()), wide._parts], [1024, 1024, None])
        self.assertEqual(question.parts(), list(question._parts))

    def test_what_is_told_stays_right(self):
        # The same objects, asked by turns for more rules than are kept.
        numbers = dice(5)
        wood = [some_question(numbers, 4, ("k", "m"), True, SHAPES) for _ in range(3)]
        cases = [(some_rules(numbers, 3), numbers.sample(["?p", "?q", "?r", "?s", "?t"], numbers.randint(0, 4)))
                 for _ in range(30)]
        fresh = [ways([Question(wood[0].nodes)], [Question(wood[1].nodes), Question(wood[0].nodes)], shown, rules=rules)
                 for rules, shown in cases]
        for at in [numbers.randrange(len(cases)) for _ in range(300)]:
            rules, shown = cases[at]
            self.assertEqual(ways(wood[:1], [wood[1], wood[0]], shown, rules=rules), fresh[at])


if __name__ == "__main__":
    unittest.main()
