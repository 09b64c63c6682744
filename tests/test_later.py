import unittest

from fullestrows.errors import Broken, NotAnAnswer
from fullestrows.facts import Store
from fullestrows.later import (
    always_final, final_answers, final_paper, is_final, is_final_paper, undoes, undoing, unsettled,
)
from fullestrows.questions import Question
from fullestrows.rules import Key, Rule
from small import FACTS, STORES, Answered, canonical, odd_values, slow_keeps, some_implication, some_rules, some_wood
from test_containment import CLASH, EMPTY, HOMELESS, ONE_TOWN, PEOPLE, TOWNS, plays, right_papers, star
from test_games import Turn
from values import ANY_VALUES, dice, names_in, slow_answers, slow_lot, slow_parts, told

STORE = Store([("person", "ann"), ("person", "bob"), ("town", "bob", "oslo")])
ANN, BOB = {"?x": "ann"}, {"?x": "bob", "?y": "oslo"}


def some_case(numbers, size=4):
    """A wood, a store that keeps some rules, the rules and an answer."""
    while True:
        wood, rules = some_wood(numbers, nodes=3, least=1), some_rules(numbers)
        store = numbers.choice(STORES)
        found = slow_answers(wood, store.facts)
        if len(store) <= size and slow_keeps(store.facts, rules) and found:
            return wood, store, numbers.choice(found), rules


def play_of(wood, store, known, rules):
    """The play of an answer, gone through to the letter."""
    return Turn(list(store.facts), wood, dict(sorted(known.items())), [], rules)


def laters(store, rules):
    """All stores of the world that have the facts of a store and keep rules."""
    return [later for later in STORES if set(store.facts) <= set(later.facts) and slow_keeps(later.facts, rules)]


class Final(unittest.TestCase):
    """Points 110 and 111."""

    def test_is_final(self):
        self.assertIs(is_final([TOWNS], STORE, ANN), False)
        self.assertIs(is_final([TOWNS], STORE, BOB), True)
        self.assertIs(is_final((TOWNS,), STORE, {"?y": "oslo", "?x": "bob"}, rules=()), True)
        self.assertIs(is_final([PEOPLE], STORE, ANN), True)
        self.assertIs(is_final([EMPTY], Store(), {}), True)
        self.assertIs(is_final([Question.read("-\n a(?x)")], Store(), {}), False)

    def test_final_in_a_wood_though_not_in_each_question(self):
        self.assertIs(is_final([TOWNS, PEOPLE], STORE, ANN), True)
        self.assertIs(is_final([PEOPLE, TOWNS], STORE, ANN), True)
        old = Question.read("person(?x)\n age(?x,?y)")
        self.assertIs(is_final([TOWNS, old], STORE, ANN), False)
        some, more = Question.read("a(?x)\n b(?x,?y)"), Question.read("a(?x)\n b(?x,?y) c(?y)")
        self.assertIs(is_final([some, more], Store([("a", "k")]), {"?x": "k"}), False)

    def test_two_questions_in_turn(self):
        # Neither question alone keeps the answer: as soon as the first one can be fuller, the second one has it.
        one = Question.read("a(?x)\n b(?x,?y)")
        other = Question.read("a(?x) b(?x,?z)")
        self.assertIs(is_final([one], Store([("a", "k")]), {"?x": "k"}), False)
        again = Question.read("a(?x) c(?x)")
        rules = [Rule([("b", "?p", "?q")], ("c", "?p"))]
        self.assertIs(is_final([one, again], Store([("a", "k")]), {"?x": "k"}), False)
        self.assertIs(is_final([one, again], Store([("a", "k")]), {"?x": "k"}, rules=rules), True)
        self.assertIs(is_final([again, one], Store([("a", "k")]), {"?x": "k"}, rules=rules), True)
        self.assertIs(is_final([other], Store([("a", "k"), ("b", "k", "m")]), {"?x": "k", "?z": "m"}), True)

    def test_rules(self):
        rules = [ONE_TOWN, Rule([("town", "?p", "?q")], ("town", "?p", "rome"))]
        rome = Store([("person", "ann"), ("town", "ann", "rome")])
        oslo = Question.read("person(?x)\n age(?x,?z) town(?x,oslo)")
        self.assertIs(is_final([oslo], rome, ANN, rules=[]), False)
        self.assertIs(is_final([oslo], rome, ANN, rules=rules), True)
        self.assertEqual(final_paper([oslo], rome, ANN, rules=rules), ("put", 0, (0,), [(1, ("clash",))]))

    def test_papers(self):
        self.assertEqual(final_paper([TOWNS, PEOPLE], STORE, ANN), ("put", 0, (0,), [(1, ("stuck", 1, (0,)))]))
        self.assertEqual(final_paper([PEOPLE], STORE, ANN), ("stuck", 0, (0,)))
        self.assertIsNone(final_paper([TOWNS], STORE, ANN))
        for paper, wanted in [(("stuck", 0, (0, 1)), True), (["stuck", 0, (0, 1)], False), (("clash",), False),
                              (("stuck", 0, (0,)), False), (("stuck", False, (0, 1)), False), (None, False)]:
            self.assertIs(is_final_paper(paper, [TOWNS], STORE, BOB), wanted)
        for value in ANY_VALUES:
            self.assertIs(is_final_paper(value, [TOWNS, PEOPLE], STORE, ANN), False)
            self.assertIs(is_final_paper(value, [TOWNS], STORE, ANN), False)

    def test_any_value(self):
        good = final_paper([TOWNS, PEOPLE], STORE, ANN)
        right = [canonical(paper) for paper in right_papers(play_of([TOWNS, PEOPLE], STORE, ANN, []))]
        several = odd_values(good)
        self.assertGreater(len(several), 80)
        for value in several:
            self.assertIs(is_final_paper(value, [TOWNS, PEOPLE], STORE, ANN), canonical(value) in right)

    def test_broken(self):
        two = Store([("person", "ann"), ("town", "ann", "oslo"), ("town", "ann", "rome")])
        calls = [(is_final, ()), (final_paper, ()), (is_final_paper, (("stuck", 0, (0,)),)), (undoing, ()),
                 (undoes, ([],))]
        for function, first in calls:
            for known in [ANN, {"?x": "ann", "?y": "oslo"}, {}, {"?w": "k"}]:
                with self.subTest(function), self.assertRaises(Broken) as caught:
                    function(*first, [TOWNS], two, known, rules=[HOMELESS, ONE_TOWN])
                self.assertEqual((caught.exception.index, caught.exception.shown),
                                 (1, [("town", "ann", "oslo"), ("town", "ann", "rome")]))
            for known in [ANN, {}, {"?w": "k"}, {"?x": "bob"}]:
                with self.subTest(function), self.assertRaises(NotAnAnswer) as caught:
                    function(*first, [TOWNS], two, known)
                self.assertEqual(caught.exception.known, known)
        with self.assertRaises(Broken) as caught:
            final_answers([], two, rules=[ONE_TOWN])
        self.assertEqual(caught.exception.index, 0)
        with self.assertRaises(NotAnAnswer):
            is_final([], STORE, {})

    def test_main_statement(self):
        numbers = dice(110)
        seen = {True: 0, False: 0}
        for _ in range(500):
            wood, store, known, rules = some_case(numbers)
            turn = play_of(wood, store, known, rules)
            wanted = not turn.wins()
            seen[wanted] += 1
            turned = dict(reversed(list(known.items())))
            self.assertIs(is_final(wood, store, turned, rules=rules), wanted)
            paper = final_paper(wood, store, turned, rules=rules)
            self.assertIs(paper is not None, wanted)
            if wanted:
                self.assertTrue(turn.proves(paper))
                self.assertIs(is_final_paper(paper, wood, store, known, rules=rules), True)
        self.assertGreater(min(seen.values()), 100)

    def test_final_in_all_later_stores(self):
        numbers = dice(111)
        answered = Answered()
        final = 0
        for _ in range(300):
            wood, store, known, rules = some_case(numbers)
            if is_final(wood, store, known, rules=rules):
                final += 1
                self.assertTrue(all(known in answered.of(wood, later) for later in laters(store, rules)))
        self.assertGreater(final, 60)

    def test_what_is_final_stays_final(self):
        numbers = dice(112)
        for _ in range(200):
            wood, store, known, rules = some_case(numbers)
            later = numbers.choice(laters(store, rules))
            if is_final(wood, store, known, rules=rules):
                self.assertIs(is_final(wood, later, known, rules=rules), True)

    def test_final_answers(self):
        self.assertEqual(final_answers([TOWNS], STORE), [BOB])
        self.assertEqual(told(final_answers([PEOPLE, TOWNS], STORE)), [[("?x", "ann")], [("?x", "bob")],
                                                                       [("?x", "bob"), ("?y", "oslo")]])
        self.assertEqual(final_answers([], STORE), [])
        self.assertEqual(final_answers([EMPTY], Store(), rules=CLASH), [{}])
        numbers = dice(113)
        many = 0
        for _ in range(150):
            wood, store, _, rules = some_case(numbers)
            wanted = [known for known in slow_answers(wood, store.facts)
                      if not play_of(wood, store, known, rules).wins()]
            self.assertEqual(told(final_answers(wood, store, rules=rules)), told(wanted))
            many += len(wanted)
        self.assertGreater(many, 60)

    def test_many_final_answers(self):
        store = Store([("person", f"p{at}") for at in range(40)] + [("town", f"p{at}", f"t{at}") for at in range(20)])
        rules = [ONE_TOWN, Rule([("town", "?p", "?q")], ("person", "?p")),
                 Rule([("town", "?p", "?q"), ("town", "?q", "?u")], ("person", "?q"))]
        self.assertEqual(len(final_answers([TOWNS], store, rules=rules)), 20)


class Undoing(unittest.TestCase):
    """Point 112."""

    def test_undoing(self):
        self.assertEqual(undoing([TOWNS], STORE, ANN), [("town", "ann", "new1")])
        self.assertIsNone(undoing([TOWNS], STORE, BOB))
        self.assertIsNone(undoing([TOWNS, PEOPLE], STORE, ANN))
        self.assertEqual(undoing([Question.read("-\n a(?x)")], Store(), {}), [("a", "new1")])

    def test_constants_that_are_there(self):
        self.assertEqual(undoing([TOWNS], STORE + Store([("town", "new1", "new2")]), ANN), [("town", "ann", "new3")])
        # A constant of the wood is not taken for an unknown one, even if the package made it.
        wood = [Question.read("a(?x)\n b(?x,?y)"), Question.read("a(?x) b(?x,new1)")]
        self.assertEqual(undoing(wood, Store([("a", "k")]), {"?x": "k"}), [("b", "k", "new2")])

    def test_by_a_rule(self):
        rules = [Rule([("town", "?p", "?q")], ("person", "?q"))]
        self.assertEqual(undoing([TOWNS], Store([("person", "ann")]), ANN, rules=rules),
                         [("person", "new1"), ("town", "ann", "new1")])

    def test_undoes(self):
        for facts, wanted in [([("town", "ann", "rome")], True), ([], False), ([("town", "eve", "rome")], False),
                              ([("town", "ann", "oslo"), ("person", "ann")], True), ([("person", "bob")], False),
                              ([("town", "ann", "rome"), ("town", "bob", "rome")], True)]:
            self.assertIs(undoes(facts, [TOWNS], STORE, ANN), wanted)
            self.assertIs(undoes(tuple(facts), [TOWNS], STORE, ANN, rules=[HOMELESS] * 0), wanted)
        self.assertIs(undoes([("town", "ann", "rome"), ("town", "bob", "rome")], [TOWNS], STORE, ANN,
                             rules=[ONE_TOWN]), False)
        self.assertIs(undoes([("town", "ann", "rome")], [TOWNS], STORE, ANN, rules=[ONE_TOWN]), True)
        self.assertIs(undoes([("town", "ann", "rome")], [TOWNS, PEOPLE], STORE, ANN), False)

    def test_by_definition(self):
        numbers = dice(114)
        seen = {True: 0, False: 0}
        for _ in range(400):
            wood, store, known, rules = some_case(numbers)
            facts = undoing(wood, store, known, rules=rules)
            seen[facts is None] += 1
            if facts is not None:
                later = sorted({*store.facts, *facts})
                self.assertEqual(facts, sorted(set(facts) - set(store.facts)))
                self.assertTrue(slow_keeps(later, rules))
                self.assertNotIn(known, slow_answers(wood, later))
                self.assertIs(undoes(facts, wood, store, known, rules=rules), True)
        self.assertGreater(min(seen.values()), 100)

    def test_undoes_by_definition(self):
        numbers = dice(115)
        seen = {True: 0, False: 0}
        for _ in range(900):
            wood, store, known, rules = some_case(numbers)
            facts = numbers.sample(FACTS, numbers.randint(0, 3))
            later = sorted({*store.facts, *facts})
            wanted = slow_keeps(later, rules) and known not in slow_answers(wood, later)
            seen[wanted] += 1
            self.assertIs(undoes(facts, wood, store, known, rules=rules), wanted)
        self.assertGreater(min(seen.values()), 40)

    def test_at_the_limits(self):
        wood = [star(turn) for turn in range(4)]
        facts = [("p", "k"), *[("e", f"v{at}", f"v{at + 1}") for at in range(59)]]
        rules = [Key("e", 2, [0]), Rule([("e", "?a", "?b"), ("f", "?b", "?c")], ("h", "?a", "?c")),
                 Rule([("h", "?a", "?b"), ("h", "?b", "?c")], ("h", "?a", "?c")), Rule([("h", "?a", "?b")], ("h", "?b", "?a"))]
        for some in ([], rules):
            self.assertEqual(final_answers(wood, Store(facts), rules=some), [])
            found = undoing(wood, Store(facts), {"?x": "k"}, rules=some)
            self.assertIs(undoes(found, wood, Store(facts), {"?x": "k"}, rules=some), True)


class Always(unittest.TestCase):
    """Point 114."""

    def test_always_final(self):
        self.assertIs(always_final([PEOPLE]), True)
        self.assertIs(always_final([TOWNS]), False)
        self.assertIs(always_final([TOWNS], rules=[HOMELESS]), True)
        self.assertIs(always_final([]), True)
        self.assertIs(always_final([EMPTY]), True)
        self.assertIs(always_final([TOWNS, PEOPLE]), True)
        self.assertIs(always_final([TOWNS, TOWNS]), False)
        self.assertIs(always_final([Question.read("-\n a(?x)")]), False)
        self.assertIs(always_final([Question.read("-\n a(?x)")], rules=[Rule([], ("a", "k"))]), True)
        self.assertIs(always_final(wood=(TOWNS,), rules=(HOMELESS,)), True)

    def test_unsettled(self):
        self.assertEqual(unsettled([TOWNS]), (Store([("person", "new1")]), {"?x": "new1"}, [("town", "new1", "new2")]))
        self.assertIsNone(unsettled([PEOPLE, TOWNS]))
        self.assertIsNone(unsettled([]))
        # The first part never is that of an answer, the second one is not final.
        deep = Question.read("person(?x)\n town(?x,?y)\n  mayor(?y,?z)")
        store, known, facts = unsettled([PEOPLE, deep], rules=[HOMELESS])
        self.assertEqual((len(known), len(facts)), (2, 1))
        self.assertIs(undoes(facts, [PEOPLE, deep], store, known, rules=[HOMELESS]), True)

    def test_constants_that_the_package_made(self):
        wood = [Question.read("a(?x)\n b(?x,?y)"), Question.read("a(?x) b(?x,new1)")]
        self.assertEqual(unsettled(wood), (Store([("a", "new2")]), {"?x": "new2"}, [("b", "new2", "new3")]))

    def test_main_statement(self):
        numbers = dice(116)
        seen = {True: 0, False: 0}
        for _ in range(300):
            wood = some_wood(numbers, nodes=3)
            rules = [some_implication(numbers) for _ in range(numbers.randint(0, 4))]
            alone = plays(wood, [], rules)
            wanted = True
            for tree, question in enumerate(wood):
                for part in slow_parts(question.nodes):
                    lot = slow_lot(question.nodes, part)
                    known = {name: name for name in names_in(lot)}
                    if alone[tree, part].wins() and Turn(lot, wood, known, [], rules).wins():
                        wanted = False
            seen[wanted] += 1
            self.assertIs(always_final(wood, rules=rules), wanted)
            found = unsettled(wood, rules=rules)
            self.assertIs(found is None, wanted)
            if found is not None:
                store, known, facts = found
                self.assertTrue(slow_keeps(store.facts, rules))
                self.assertIn(known, slow_answers(wood, store.facts))
                later = sorted({*store.facts, *facts})
                self.assertTrue(slow_keeps(later, rules))
                self.assertNotIn(known, slow_answers(wood, later))
        self.assertGreater(min(seen.values()), 80)

    def test_always_final_in_all_stores(self):
        numbers = dice(117)
        always = 0
        for _ in range(150):
            wood = some_wood(numbers, nodes=3, least=1)
            rules = [some_implication(numbers) for _ in range(numbers.randint(0, 4))]
            if always_final(wood, rules=rules):
                always += 1
                for store in numbers.sample(STORES, 10):
                    if slow_keeps(store.facts, rules):
                        self.assertEqual(final_answers(wood, store, rules=rules), slow_answers(wood, store.facts))
        self.assertGreater(always, 40)


if __name__ == "__main__":
    unittest.main()
