import itertools
import unittest

from fullestrows.complete import (
    enough_tables, is_later, is_settled, is_settled_paper, settled_answers, settled_paper, tables_of, unsettles,
    unsettling,
)
from fullestrows.errors import Broken, Clash, NotAnAnswer
from fullestrows.facts import Store
from fullestrows.later import is_final
from fullestrows.questions import Question
from fullestrows.rules import Key, Rule
from small import FACTS, STORES, Answered, canonical, odd_values, slow_keeps, some_rules, some_wood
from test_containment import EMPTY, HOMELESS, ONE_TOWN, PEOPLE
from test_games import slow_candidates, slow_goes_on
from values import ANY_VALUES, dice, given, names_in, slow_answers, slow_closed, slow_next, told

TOWNS = Question([(None, [("person", "?x")]), (0, [("town", "?x", "?y"), ("mayor", "?y", "?z")])])
BARE = Question([(None, [("person", "?x")]), (0, [("age", "?x", "?y")])])
STORE = Store([("mayor", "oslo", "eve"), ("person", "ann")])
ALONE = Store([("person", "ann")])
ANN = {"?x": "ann"}


class Turn:
    """A play of complete tables after closing, by the definition alone."""

    def __init__(self, lot, wood, known, complete, rules, store):
        self.told = (wood, known, complete, rules, store)
        self.barred = False
        try:
            self.lot, _ = slow_closed(lot, rules, dice(0))
        except Clash:
            self.barred = True
            return
        if any(pattern[0] in complete and pattern not in store.facts for pattern in self.lot):
            self.barred = True
            return
        self.waiting = [pair for pair in slow_candidates(self.lot, wood, known)
                        if not slow_goes_on(self.lot, wood, known, *pair)]

    def choices(self):
        """All choices (node, chosen) for the first candidate that does not go on, with the plays that follow."""
        wood, known, complete, rules, store = self.told
        tree, part = self.waiting[0]
        nodes = wood[tree].nodes
        used = names_in(self.lot) + names_in([p for question in wood for _, lot in question.nodes for p in lot])
        for node in slow_next(nodes, part):
            names = [name for name in names_in(nodes[node][1]) if name not in known]
            for terms in itertools.product([None, *store.constants()], repeat=len(names)):
                chosen = dict(zip(names, terms))
                fresh = (f"?new{number}" for number in range(1, 100) if f"?new{number}" not in used)
                full = {name: next(fresh) if term is None else term for name, term in chosen.items()}
                lot = [*self.lot, *[given(pattern, {**known, **full}) for pattern in nodes[node][1]]]
                yield node, chosen, Turn(lot, wood, known, complete, rules, store)

    def is_lost(self):
        """Whether the spoiler loses."""
        if self.barred:
            return True
        return self.waiting != [] and all(turn.is_lost() for _, _, turn in self.choices())

    def proves(self, paper):
        """Whether a paper, made of the right kinds of values, shows that the spoiler loses."""
        if self.barred or paper[0] == "barred":
            return self.barred and paper == ("barred",)
        if not self.waiting or paper[1:3] != self.waiting[0]:
            return False
        choices = list(self.choices())
        if paper[0] == "stuck":
            return len(paper) == 3 and not choices
        if paper[0] != "put" or not choices or len(paper[3]) != len(choices):
            return False
        return all([row[2] for row in paper[3] if row[:2] == (node, chosen)][:1] != []
                   and all(turn.proves(row[2]) for row in paper[3] if row[:2] == (node, chosen))
                   for node, chosen, turn in choices)


def play_of(wood, store, known, complete, rules):
    return Turn(list(store.facts), wood, dict(sorted(known.items())), complete, rules, store)


def some_case(numbers, size=4, nodes=2):
    """A wood, a store that keeps some rules, an answer, complete tables and the rules."""
    while True:
        wood, rules = some_wood(numbers, nodes=nodes, least=1), some_rules(numbers)
        store = numbers.choice(STORES)
        found = slow_answers(wood, store.facts)
        few = all(len(names_in(lot)) < 5 for question in wood for _, lot in question.nodes[1:])
        if len(store) <= size and slow_keeps(store.facts, rules) and found and few:
            return wood, store, numbers.choice(found), numbers.sample("abc", numbers.randint(0, 2)), rules


def slow_later(later, store, complete, rules):
    """Whether facts are a later store, by the definition alone."""
    return (set(store.facts) <= set(later) and slow_keeps(later, rules)
            and all(fact in store.facts for fact in later if fact[0] in complete))


class Later(unittest.TestCase):
    """Point 150."""

    def test_is_later(self):
        self.assertIs(is_later(STORE, ALONE), True)
        self.assertIs(is_later(STORE, ALONE, complete=["mayor"]), False)
        self.assertIs(is_later(STORE, ALONE, complete=("person", "town")), True)
        self.assertIs(is_later(ALONE, STORE), False)
        self.assertIs(is_later(STORE, STORE, complete=["mayor", "person"]), True)
        self.assertIs(is_later(Store(), Store(), complete=[]), True)
        self.assertIs(is_later(later=STORE, store=ALONE, rules=[HOMELESS]), False)
        # Only the later store has to keep the rules.
        self.assertIs(is_later(ALONE + Store([("town", "ann", "rome")]), ALONE, rules=[HOMELESS]), True)

    def test_by_definition(self):
        numbers = dice(150)
        seen = {True: 0, False: 0}
        for _ in range(1000):
            later, rules, complete = numbers.choice(STORES), some_rules(numbers), numbers.sample("abc", numbers.randint(0, 2))
            store = Store(numbers.sample(list(later.facts), numbers.randint(0, len(later))))
            store = store if numbers.random() < 0.8 else numbers.choice(STORES)
            wanted = slow_later(later.facts, store, complete, rules)
            seen[wanted] += 1
            self.assertIs(is_later(later, store, complete=complete, rules=rules), wanted)
        self.assertGreater(min(seen.values()), 150)


class Settled(unittest.TestCase):
    """Points 151 and 154."""

    def test_is_settled(self):
        self.assertIs(is_settled([TOWNS], STORE, ANN), False)
        self.assertIs(is_settled([TOWNS], STORE, ANN, complete=["town"]), True)
        self.assertIs(is_settled([TOWNS], STORE, ANN, complete=["mayor"]), False)
        self.assertIs(is_settled((TOWNS,), ALONE, ANN, complete=("mayor",), rules=()), True)
        self.assertIs(is_settled([PEOPLE], STORE, ANN), True)
        self.assertIs(is_settled([EMPTY], Store(), {}), True)
        self.assertIs(is_settled([TOWNS, PEOPLE], STORE, ANN), True)

    def test_no_table_complete_and_all_of_them(self):
        numbers = dice(151)
        for _ in range(150):
            wood, store, known, _, rules = some_case(numbers)
            self.assertIs(is_settled(wood, store, known, rules=rules), is_final(wood, store, known, rules=rules))
            self.assertIs(is_settled(wood, store, known, complete=["a", "b"], rules=rules), True)

    def test_choices_of_constants(self):
        # With the constants of the store alone there is a mayor of oslo for ann, with fresh ones there is none.
        self.assertEqual(unsettling([TOWNS], STORE, ANN, complete=["mayor"]), [("town", "ann", "oslo")])
        rules = [Rule([("town", "?p", "?q")], ("place", "?q"))]
        self.assertIs(is_settled([TOWNS], STORE, ANN, complete=["mayor", "place"], rules=rules), True)
        placed = STORE + Store([("place", "oslo")])
        self.assertIs(is_settled([TOWNS], placed, ANN, complete=["mayor", "place"], rules=rules), False)
        self.assertIs(is_settled([TOWNS], placed, ANN, complete=["mayor", "place", "town"], rules=rules), True)
        # A constant is of use where a rule adds facts to a complete table, also if the node asks for none of it.
        store = Store([("person", "ann"), ("place", "oslo")])
        towns = Question.read("person(?x)\n town(?x,?y)")
        rules = [Rule([("town", "?p", "?q")], ("place", "?q"))]
        self.assertIs(is_settled([towns], store, ANN, complete=["place"], rules=rules), False)
        self.assertEqual(unsettling([towns], store, ANN, complete=["place"], rules=rules), [("town", "ann", "oslo")])
        self.assertIs(is_settled([towns], ALONE, ANN, complete=["place"], rules=rules), True)

    def test_choices_that_a_key_makes_possible(self):
        # A fresh variable becomes a constant of the store, so the choice is not barred.
        store = Store([("person", "ann"), ("town", "ann", "oslo")])
        mayors = Question.read("person(?x)\n mayor(?y) town(?x,?y)")
        self.assertIs(is_settled([mayors], store, ANN, complete=["town"], rules=[ONE_TOWN]), False)
        self.assertEqual(unsettling([mayors], store, ANN, complete=["town"], rules=[ONE_TOWN]), [("mayor", "oslo")])
        stuck = ("stuck", 1, (0,))
        paper = settled_paper([mayors, PEOPLE], store, ANN, complete=["town"], rules=[ONE_TOWN])
        self.assertEqual(paper, ("put", 0, (0,), [(1, {"?y": None}, stuck), (1, {"?y": "ann"}, ("barred",)),
                                                  (1, {"?y": "oslo"}, stuck)]))
        self.assertIs(is_settled_paper(paper, [mayors, PEOPLE], store, ANN, complete=["town"], rules=[ONE_TOWN]), True)
        paper = settled_paper([mayors, PEOPLE], store, ANN, complete=["town"])
        self.assertEqual([row[2] for row in paper[3]], [("barred",), ("barred",), stuck])

    def test_errors(self):
        two = Store([("person", "ann"), ("town", "ann", "oslo"), ("town", "ann", "rome")])
        calls = [(is_settled, ()), (settled_paper, ()), (is_settled_paper, (("stuck", 0, (0,)),)), (unsettling, ()),
                 (unsettles, ([],)), (enough_tables, ())]
        for function, first in calls:
            for known in [ANN, {}, {"?w": "k"}]:
                with self.subTest(function), self.assertRaises(Broken) as caught:
                    function(*first, [TOWNS], two, known, rules=[HOMELESS, ONE_TOWN])
                self.assertEqual((caught.exception.index, caught.exception.shown),
                                 (1, [("town", "ann", "oslo"), ("town", "ann", "rome")]))
            for known in [{}, {"?w": "k"}, {"?x": "bob"}]:
                with self.subTest(function), self.assertRaises(NotAnAnswer) as caught:
                    function(*first, [TOWNS], two, known)
                self.assertEqual(caught.exception.known, known)
        with self.assertRaises(Broken) as caught:
            settled_answers([], two, rules=[ONE_TOWN])
        self.assertEqual(caught.exception.index, 0)

    def test_main_statement(self):
        numbers = dice(152)
        seen = {True: 0, False: 0}
        for _ in range(900):
            wood, store, known, complete, rules = some_case(numbers)
            turn = play_of(wood, store, known, complete, rules)
            wanted = turn.is_lost()
            seen[wanted] += 1
            turned = dict(reversed(list(known.items())))
            self.assertIs(is_settled(wood, store, turned, complete=complete, rules=rules), wanted)
            paper = settled_paper(wood, store, turned, complete=complete, rules=rules)
            self.assertIs(paper is not None, wanted)
            if wanted:
                self.assertTrue(turn.proves(paper))
                self.assertIs(is_settled_paper(paper, wood, store, known, complete=complete, rules=rules), True)
        self.assertGreater(min(seen.values()), 80)

    def test_settled_in_all_later_stores(self):
        numbers = dice(153)
        answered = Answered()
        settled = 0
        for _ in range(300):
            wood, store, known, complete, rules = some_case(numbers, nodes=3)
            if is_settled(wood, store, known, complete=complete, rules=rules):
                settled += 1
                for later in STORES:
                    if slow_later(later.facts, store, complete, rules):
                        self.assertIn(known, answered.of(wood, later))
        self.assertGreater(settled, 100)

    def test_what_is_settled_stays_settled(self):
        numbers = dice(154)
        for _ in range(200):
            wood, store, known, complete, rules = some_case(numbers)
            if is_settled(wood, store, known, complete=complete, rules=rules):
                later = numbers.choice([one for one in STORES if slow_later(one.facts, store, complete, rules)])
                self.assertIs(is_settled(wood, later, known, complete=complete, rules=rules), True)
                self.assertIs(is_settled(wood, store, known, complete=[*complete, "b"], rules=rules), True)

    def test_settled_answers(self):
        self.assertEqual(settled_answers([TOWNS], STORE, complete=["town"]), [ANN])
        self.assertEqual(settled_answers([TOWNS], STORE), [])
        self.assertEqual(settled_answers([], STORE), [])
        self.assertEqual(settled_answers([EMPTY, PEOPLE], STORE), [{}, ANN])
        numbers = dice(155)
        many = 0
        for _ in range(150):
            wood, store, _, complete, rules = some_case(numbers)
            wanted = [known for known in slow_answers(wood, store.facts)
                      if play_of(wood, store, known, complete, rules).is_lost()]
            many += len(wanted)
            self.assertEqual(told(settled_answers(wood, store, complete=complete, rules=rules)), told(wanted))
        self.assertGreater(many, 100)


class Papers(unittest.TestCase):
    """Point 152."""

    def test_papers(self):
        barred = ("put", 0, (0,), [(1, {"?y": None}, ("barred",)), (1, {"?y": "ann"}, ("barred",))])
        self.assertEqual(settled_paper([BARE], ALONE, ANN, complete=["age"]), barred)
        self.assertEqual(settled_paper([PEOPLE], ALONE, ANN), ("stuck", 0, (0,)))
        self.assertIsNone(settled_paper([BARE], ALONE, ANN))
        self.assertEqual(settled_paper([BARE, PEOPLE], ALONE, ANN), ("put", 0, (0,), [
            (1, {"?y": None}, ("stuck", 1, (0,))), (1, {"?y": "ann"}, ("stuck", 1, (0,)))]))
        self.assertEqual(settled_paper([Question.read("-\n halt(?y)")], Store(), {}, complete=["halt"]),
                         ("put", 0, (0,), [(1, {"?y": None}, ("barred",))]))

    def test_order_of_the_rows(self):
        paper = settled_paper([TOWNS, PEOPLE], STORE, ANN)
        options = [None, "ann", "eve", "oslo"]
        self.assertEqual([row[1] for row in paper[3]], [{"?y": one, "?z": other} for one in options for other in options])
        self.assertTrue(all(list(row[1]) == ["?y", "?z"] for row in paper[3]))
        both = Question.read("person(?x)\n age(?x,?y)\n town(?x,?z)")
        paper = settled_paper([both, PEOPLE], ALONE, ANN)
        self.assertEqual([row[:2] for row in paper[3]], [(1, {"?y": None}), (1, {"?y": "ann"}), (2, {"?z": None}),
                                                         (2, {"?z": "ann"})])

    def test_clash_bars_a_choice(self):
        store = Store([("person", "ann"), ("town", "ann", "rome")])
        oslo = Question.read("person(?x)\n age(?x,?z) town(?x,oslo)")
        paper = settled_paper([oslo], store, ANN, rules=[ONE_TOWN])
        self.assertEqual([row[2] for row in paper[3]], [("barred",)] * 3)

    def test_rows_and_keys_in_any_order(self):
        paper = settled_paper([TOWNS, PEOPLE], STORE, ANN)
        rows = [(node, dict(reversed(list(chosen.items()))), lower) for node, chosen, lower in reversed(paper[3])]
        for other in [rows, tuple(rows), rows[3:] + rows[:3]]:
            self.assertIs(is_settled_paper((*paper[:3], other), [TOWNS, PEOPLE], STORE, ANN), True)
        for other in [rows[1:], [*rows, rows[0]], [*rows[1:], rows[1]], [], None, {}, [list(row) for row in rows],
                      [row[:2] for row in rows], [(*row, None) for row in rows],
                      [(True, *row[1:]) for row in rows], [(0, *row[1:]) for row in rows],
                      [(row[0], list(row[1].items()), row[2]) for row in rows],
                      [(row[0], {**row[1], "?x": "ann"}, row[2]) for row in rows],
                      [(row[0], {"?y": row[1]["?y"]}, row[2]) for row in rows]]:
            self.assertIs(is_settled_paper((*paper[:3], other), [TOWNS, PEOPLE], STORE, ANN), False)

    def test_values_that_are_chosen(self):
        good = settled_paper([BARE], ALONE, ANN, complete=["age"])
        for value in [*ANY_VALUES, "rome", "?new1", "new1"]:
            rows = [good[3][0], (1, {"?y": value}, ("barred",))]
            self.assertIs(is_settled_paper((*good[:3], rows), [BARE], ALONE, ANN, complete=["age"]), False)
            rows = [good[3][0], (1, {"?y": "ann"}, value)]
            self.assertIs(is_settled_paper((*good[:3], rows), [BARE], ALONE, ANN, complete=["age"]), False)
            self.assertIs(is_settled_paper(value, [BARE], ALONE, ANN, complete=["age"]), False)
            self.assertIs(is_settled_paper(value, [BARE], ALONE, ANN), False)

    def test_wrong_papers(self):
        for paper in [("barred",), ["barred"], ("clash",), ("stuck", 0, (0,)), ("put", 0, (0,), []), ("had", 0, ANN)]:
            self.assertIs(is_settled_paper(paper, [BARE], ALONE, ANN, complete=["age"]), False)
            self.assertIs(is_settled_paper(paper, [BARE], ALONE, ANN), False)
        for paper, wanted in [(("stuck", 0, (0,)), True), (("stuck", False, (0,)), False), (("stuck", 0, (False,)), False),
                              (("stuck", 0, [0]), False), (("stuck", 0, (0,), 0), False), (("put", 0, (0,), []), False),
                              (("Stuck", 0, (0,)), False), (("put", 0, (0,)), False), ((None, 0, (0,)), False)]:
            self.assertIs(is_settled_paper(paper, [PEOPLE], ALONE, ANN), wanted)

    def test_no_paper_where_the_spoiler_has_won(self):
        for lower in [("stuck", 0, (0,)), ("put", 0, (0,), []), ("barred",), ("stuck", 0, (0, 1)), (), None]:
            rows = [(1, {"?y": None}, lower), (1, {"?y": "ann"}, lower)]
            self.assertIs(is_settled_paper(("put", 0, (0,), rows), [BARE], ALONE, ANN), False)

    def test_rows_with_the_number_of_another_node(self):
        both = [Question.read("person(?x)\n age(?x,?y)\n town(?x,?z)"), PEOPLE]
        paper = settled_paper(both, ALONE, ANN)
        self.assertIs(is_settled_paper(paper, both, ALONE, ANN), True)
        rows = [(3 - node, chosen, lower) for node, chosen, lower in paper[3]]
        self.assertIs(is_settled_paper((*paper[:3], rows), both, ALONE, ANN), False)

    def test_any_value(self):
        wood, complete = [BARE, Question.read("person(?x)\n town(?x,?z)")], ["town"]
        good = settled_paper(wood, ALONE, ANN, complete=complete)
        turn = play_of(wood, ALONE, ANN, complete, [])
        right = canonical(with_sorted_rows(good))
        several = odd_values(good)
        self.assertGreater(len(several), 150)
        found = {True: 0, False: 0}
        for value in several:
            # There is just one paper, but for the order of the rows.
            wanted = canonical(with_sorted_rows(value)) == right
            found[wanted] += 1
            self.assertIs(is_settled_paper(value, wood, ALONE, ANN, complete=complete), wanted, value)
        self.assertTrue(turn.proves(good))
        self.assertGreater(min(found.values()), 0)

    def test_spoiled_papers(self):
        numbers = dice(156)
        found = {True: 0, False: 0}
        while min(found.values()) < 40:
            wood, store, known, complete, rules = some_case(numbers)
            paper = settled_paper(wood, store, known, complete=complete, rules=rules)
            if paper is None or paper[0] != "put":
                continue
            turn = play_of(wood, store, known, complete, rules)
            other = changed(numbers, paper)
            wanted = turn.proves(other)
            found[wanted] += 1
            self.assertIs(is_settled_paper(other, wood, store, known, complete=complete, rules=rules), wanted)


def with_sorted_rows(value):
    """A paper with its rows in one order; any other value as it is."""
    if not isinstance(value, tuple) or len(value) != 4 or not isinstance(value[3], list):
        return value
    rows = [(*row[:2], with_sorted_rows(row[2]), *row[3:]) if isinstance(row, tuple) and len(row) > 2 else row
            for row in value[3]]
    return (*value[:3], sorted(rows, key=lambda row: repr(canonical(row))))


def changed(numbers, paper):
    """A paper with its rows in another order, and often with something wrong in it."""
    if paper[0] != "put":
        return numbers.choice([paper, ("barred",), ("stuck", 0, (0,)), paper])
    rows = list(paper[3])
    numbers.shuffle(rows)
    at = numbers.randrange(len(rows))
    rows[at] = (*rows[at][:2], changed(numbers, rows[at][2]))
    if numbers.random() < 0.1:
        rows.pop()
    return (*paper[:3], rows)


class Unsettling(unittest.TestCase):
    """Point 153."""

    def test_unsettling(self):
        self.assertIsNone(unsettling([TOWNS], STORE, ANN, complete=["town"]))
        self.assertIsNone(unsettling([PEOPLE], STORE, ANN))
        self.assertEqual(unsettling([BARE], ALONE, ANN), [("age", "ann", "new1")])
        self.assertEqual(unsettling([BARE], ALONE, ANN, rules=[Rule([("age", "?p", "?q")], ("age", "?q", "?p"))]),
                         [("age", "ann", "new1"), ("age", "new1", "ann")])

    def test_constants_that_are_there(self):
        wood = [BARE, Question.read("age(?x,new1) person(?x)")]
        self.assertEqual(unsettling(wood, ALONE, ANN), [("age", "ann", "new2")])
        self.assertEqual(unsettling([BARE], ALONE + Store([("town", "new1", "ann")]), ANN), [("age", "ann", "new2")])

    def test_unsettles(self):
        for facts, complete, wanted in [
                ([("town", "ann", "rome")], [], False), ([("town", "ann", "oslo")], [], True), ([], [], False),
                ([("town", "ann", "oslo")], ["mayor"], True), ([("town", "ann", "oslo")], ["town"], False),
                ([("town", "ann", "rome"), ("mayor", "rome", "bob")], [], True),
                ([("town", "ann", "rome"), ("mayor", "rome", "bob")], ["mayor"], False),
                ([("town", "ann", "oslo"), ("person", "ann")], ["person"], True)]:
            self.assertIs(unsettles(facts, [TOWNS], STORE, ANN, complete=complete), wanted)
            self.assertIs(unsettles(tuple(facts), (TOWNS,), STORE, ANN, complete=tuple(complete), rules=()), wanted)
        self.assertIs(unsettles([("town", "ann", "oslo"), ("town", "ann", "rome")], [TOWNS], STORE, ANN,
                                rules=[ONE_TOWN]), False)

    def test_by_definition(self):
        numbers = dice(157)
        seen = {True: 0, False: 0}
        for _ in range(600):
            wood, store, known, complete, rules = some_case(numbers, nodes=3)
            facts = unsettling(wood, store, known, complete=complete, rules=rules)
            seen[facts is None] += 1
            if facts is not None:
                later = sorted({*store.facts, *facts})
                self.assertEqual(facts, sorted(set(facts) - set(store.facts)))
                self.assertTrue(slow_later(later, store, complete, rules))
                self.assertNotIn(known, slow_answers(wood, later))
                self.assertIs(unsettles(facts, wood, store, known, complete=complete, rules=rules), True)
        self.assertGreater(min(seen.values()), 80)

    def test_unsettles_by_definition(self):
        numbers = dice(158)
        seen = {True: 0, False: 0}
        for _ in range(900):
            wood, store, known, complete, rules = some_case(numbers)
            facts = numbers.sample(FACTS, numbers.randint(0, 3))
            later = sorted({*store.facts, *facts})
            wanted = slow_later(later, store, complete, rules) and known not in slow_answers(wood, later)
            seen[wanted] += 1
            self.assertIs(unsettles(facts, wood, store, known, complete=complete, rules=rules), wanted)
        self.assertGreater(min(seen.values()), 10)


class Enough(unittest.TestCase):
    """Point 155."""

    def test_tables_of(self):
        self.assertEqual(tables_of([TOWNS]), ["mayor", "person", "town"])
        self.assertEqual(tables_of((BARE, TOWNS, EMPTY)), ["age", "mayor", "person", "town"])
        self.assertEqual([tables_of([]), tables_of([EMPTY])], [[], []])

    def test_enough_tables(self):
        self.assertEqual(enough_tables([TOWNS], STORE, ANN), [["town"]])
        self.assertEqual(enough_tables([TOWNS], ALONE, ANN), [["mayor"], ["town"]])
        self.assertEqual(enough_tables([PEOPLE], ALONE, ANN), [[]])
        self.assertEqual(enough_tables([TOWNS, PEOPLE], STORE, ANN), [[]])
        two = Question.read("person(?x)\n age(?x,?y)\n mayor(?x) town(?x,?z)")
        self.assertEqual(enough_tables([two], ALONE, ANN), [["age", "mayor"], ["age", "town"]])
        self.assertEqual(enough_tables([EMPTY], Store(), {}), [[]])

    def test_all_tables_are_enough(self):
        numbers = dice(159)
        for _ in range(200):
            wood, store, known, _, rules = some_case(numbers)
            self.assertNotEqual(enough_tables(wood, store, known, rules=rules), [])

    def test_by_definition(self):
        numbers = dice(160)
        seen = {}
        for _ in range(120):
            wood, store, known, _, rules = some_case(numbers)
            tables = tables_of(wood)
            lists = [list(some) for size in range(len(tables) + 1) for some in itertools.combinations(tables, size)]
            settled = [some for some in lists if play_of(wood, store, known, some, rules).is_lost()]
            wanted = [some for some in settled if not any(set(less) < set(some) for less in settled)]
            found = enough_tables(wood, store, known, rules=rules)
            self.assertEqual(found, wanted)
            seen[repr(found)] = seen.get(repr(found), 0) + 1
        self.assertGreater(len(seen), 3)

    def test_five_tables(self):
        wide = Question.read("a(?x)\n b(?x,?y)\n c(?x,?z)\n d(?x,?v)\n e(?x,?w)")
        self.assertEqual(enough_tables([wide, wide], Store([("a", "k")]), {"?x": "k"}), [["b", "c", "d", "e"]])
        deep = Question.read("a(?x)\n b(?x,?y) c(?y,?z) d(?z) e(?x)")
        self.assertEqual(enough_tables([deep], Store([("a", "k")]), {"?x": "k"}), [["b"], ["c"], ["d"], ["e"]])
        self.assertEqual(enough_tables([deep], Store([("a", "k"), ("b", "k", "k"), ("d", "k")]), {"?x": "k"}),
                         [["c"], ["e"]])

    def test_at_the_limits(self):
        # Six constants, two questions of six nodes, each with two new variables.
        nodes = [[(None, [("p", "?x")]), *[(0, [(one, "?x", f"?{one}{at}"), (other, f"?{one}{at}", f"?{other}{at}")])
                                           for at in range(5)]] for one, other in ["ef", "gh"]]
        wood = [Question(several) for several in nodes]
        store = Store([("p", term) for term in "abcdkm"])
        rules = [Key("e", 2, [0]), Rule([("e", "?a", "?b")], ("h", "?b", "?a")),
                 Rule([("h", "?a", "?b"), ("h", "?b", "?c")], ("h", "?a", "?c"))]
        for some in ([], rules):
            self.assertEqual(len(settled_answers(wood, store, complete=["g"], rules=some)), 6)
            self.assertEqual(settled_answers(wood, store, complete=["p"], rules=some), [])
            self.assertEqual(len(settled_answers(wood, store, complete=["h", "f"], rules=some)), 6)
            self.assertIn(["e"], enough_tables(wood, store, {"?x": "k"}, rules=some))
            paper = settled_paper(wood, store, {"?x": "k"}, complete=["e"], rules=some)
            self.assertEqual(len(paper[3]), 5 * 49)
            self.assertIs(is_settled_paper(paper, wood, store, {"?x": "k"}, complete=["e"], rules=some), True)


if __name__ == "__main__":
    unittest.main()
