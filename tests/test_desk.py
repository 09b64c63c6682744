import unittest

from fullestrows.answers import answers, changes
from fullestrows.desk import Desk, read_desk, rehearsed
from fullestrows.errors import (
    BadFact, BadLine, BadQuestion, Broken, NoName, NothingToRedo, NothingToUndo, NotThere, RowsError, ThereAlready,
)
from fullestrows.facts import Store
from fullestrows.questions import Question
from fullestrows.rules import Key, Rule, broken
from small import FACTS, slow_keeps, some_rules, some_wood
from test_containment import EMPTY, ONE_TOWN, PEOPLE, TOWNS
from values import ANY_VALUES, dice, told

ANN, BOB, ROME, OSLO = ("person", "ann"), ("person", "bob"), ("town", "ann", "rome"), ("town", "ann", "oslo")
FULL = {"?x": "ann", "?y": "rome"}


def some_desk():
    """A desk with a wood, two facts and two steps."""
    desk = Desk([ANN], rules=[ONE_TOWN])
    desk.name("towns", [TOWNS])
    desk.put([ROME])
    return desk


def whole(desk):
    """All that a desk tells, going through its steps and back again."""
    seen = [desk.store.facts, desk.names, [desk.wood(name) for name in desk.names], len(desk), desk.text()]
    undone, redone = 0, 0
    while len(desk):
        desk.undo()
        undone += 1
        seen.append((desk.store.facts, desk.text()))
    for _ in range(undone):
        desk.redo()
    try:
        while True:
            desk.redo()
            redone += 1
            seen.append(desk.text())
    except NothingToRedo:
        pass
    for _ in range(redone):
        desk.undo()
    return seen


class Making(unittest.TestCase):
    """Point 140."""

    def test_nothing_on_it(self):
        for desk in [Desk(), Desk([]), Desk(facts=(), rules=()), Desk((), rules=[ONE_TOWN])]:
            self.assertEqual((desk.store, desk.names, len(desk), desk.text()), (Store(), [], 0, ""))
            self.assertRaises(NothingToUndo, desk.undo)
            self.assertRaises(NothingToRedo, desk.redo)

    def test_facts(self):
        self.assertEqual(Desk([ROME, ANN, ROME]).store, Store([ANN, ROME]))
        self.assertEqual(Desk((ROME, OSLO)).store, Store([ROME, OSLO]))
        self.assertRaises(TypeError, Desk, [ROME], [ONE_TOWN])

    def test_bad_facts(self):
        for value in [*ANY_VALUES, ("town", "?x", "rome"), ["halt"]]:
            with self.assertRaises(BadFact) as caught:
                Desk([ROME, OSLO, value, None], rules=[ONE_TOWN])
            self.assertIs(caught.exception.value, value)

    def test_broken(self):
        with self.assertRaises(Broken) as caught:
            Desk([ROME, OSLO], rules=[Key("person", 1, []), ONE_TOWN])
        self.assertEqual((caught.exception.index, caught.exception.shown), (1, [OSLO, ROME]))

    def test_what_was_passed_is_copied(self):
        facts, rules = [ROME], [ONE_TOWN]
        desk = Desk(facts, rules=rules)
        facts.append(ANN)
        rules.clear()
        self.assertEqual(desk.store, Store([ROME]))
        self.assertRaises(Broken, desk.put, [OSLO])

    def test_no_two_desks_share_anything(self):
        one, other = Desk([ANN]), Desk([ANN])
        one.name("a", [PEOPLE])
        self.assertEqual(other.names, [])
        self.assertIs(one == ANN, False)
        self.assertFalse(any(one == value for value in ANY_VALUES))


class Exchanging(unittest.TestCase):
    """Point 141."""

    def test_exchange(self):
        desk = Desk([ANN, ROME], rules=[ONE_TOWN])
        self.assertIsNone(desk.exchange([ROME], [OSLO, BOB]))
        self.assertEqual(desk.store, Store([ANN, BOB, OSLO]))
        self.assertIsNone(desk.put([("halt",)]))
        self.assertIsNone(desk.strike(facts=(ANN, OSLO)))
        self.assertEqual(desk.store, Store([BOB, ("halt",)]))
        desk.exchange(come=(), gone=())
        desk.put(facts=[])
        self.assertEqual(len(desk), 5)

    def test_a_fact_that_goes_may_come_again(self):
        desk = Desk([ANN, ROME])
        desk.exchange([ROME, ANN], [ANN])
        self.assertEqual(desk.store, Store([ANN]))

    def check(self, error, attributes, gone, come):
        desk = some_desk()
        before = whole(desk)
        for call in [desk.exchange, lambda gone, come: desk.supposed(gone, come, "towns")]:
            with self.subTest((gone, come)), self.assertRaises(error) as caught:
                call(gone, come)
            self.assertEqual(vars(caught.exception), attributes)
        with self.assertRaises(error) as caught:
            rehearsed(desk, [([], []), (gone, come), (None, None)], "towns")
        self.assertEqual(vars(caught.exception), attributes)
        self.assertEqual(whole(desk), before)

    def test_not_there(self):
        for value in [*ANY_VALUES, BOB, OSLO, ["person", "ann"], ("person", "?x")]:
            self.check(NotThere, {"fact": value}, [ROME, value, None], [])
        self.check(NotThere, {"fact": ROME}, [ROME, ANN, ROME, BOB], [])
        self.check(NotThere, {"fact": BOB}, [ROME, BOB, ROME], [None, ANN, OSLO, OSLO])

    def test_bad_facts(self):
        for value in [*ANY_VALUES, ("person", "?x"), ["person", "ann"]]:
            self.check(BadFact, {"value": value}, [ROME], [ANN, OSLO, OSLO, value, None])

    def test_there_already(self):
        self.check(ThereAlready, {"fact": ANN}, [ROME], [OSLO, ANN, OSLO])
        self.check(ThereAlready, {"fact": OSLO}, [], [OSLO, OSLO])
        self.check(ThereAlready, {"fact": ROME}, [ANN], [ANN, ROME])
        self.check(ThereAlready, {"fact": BOB}, [ROME], [OSLO, BOB, BOB, ANN])

    def test_broken(self):
        self.check(Broken, {"index": 0, "shown": [OSLO, ROME]}, [], [OSLO])
        self.check(Broken, {"index": 0, "shown": [OSLO, ("town", "ann", "york")]}, [ROME], [("town", "ann", "york"), OSLO])

    def test_put_and_strike(self):
        desk = some_desk()
        for call, value, error in [(desk.put, ANN, ThereAlready), (desk.put, OSLO, Broken), (desk.put, None, BadFact),
                                   (desk.strike, BOB, NotThere), (desk.strike, [], NotThere)]:
            self.assertRaises(error, call, [value])
        self.assertEqual(len(desk), 2)

    def test_implications(self):
        desk = Desk([], rules=[Rule([("town", "?p", "?q")], ("person", "?p"))])
        with self.assertRaises(Broken) as caught:
            desk.put([ROME])
        self.assertEqual((caught.exception.index, caught.exception.shown), (0, [ROME]))
        desk.put([ROME, ANN])
        self.assertRaises(Broken, desk.strike, [ANN])
        desk.strike([ANN, ROME])
        self.assertEqual(len(desk), 2)


class Naming(unittest.TestCase):
    """Points 142 and 144."""

    def test_name(self):
        desk = Desk([ANN])
        self.assertIsNone(desk.name("b", [TOWNS, PEOPLE]))
        desk.name(wood=(), name="a")
        self.assertEqual((desk.names, desk.wood("b"), desk.wood(name="a"), len(desk)), (["a", "b"], [TOWNS, PEOPLE], [], 2))
        self.assertEqual((desk.answers("b"), desk.answers(name="a")), ([{"?x": "ann"}], []))

    def test_named_anew(self):
        desk = Desk([ANN])
        desk.name("a", [PEOPLE])
        desk.name("a", [EMPTY])
        self.assertEqual((desk.wood("a"), desk.answers("a"), desk.names), ([EMPTY], [{}], ["a"]))
        desk.undo()
        self.assertEqual(desk.wood("a"), [PEOPLE])
        desk.forget("a")
        self.assertEqual(desk.names, [])
        self.assertRaises(NoName, desk.wood, "a")
        desk.undo()
        self.assertEqual(desk.wood("a"), [PEOPLE])
        desk.redo()
        self.assertEqual((desk.names, len(desk)), ([], 2))
        desk.name("a", [TOWNS])
        self.assertEqual(desk.wood("a"), [TOWNS])
        self.assertRaises(NothingToRedo, desk.redo)

    def test_same_wood_again_is_a_step(self):
        desk = Desk()
        desk.name("a", [PEOPLE])
        desk.name("a", [PEOPLE])
        self.assertEqual(len(desk), 2)

    def test_what_was_passed_is_copied(self):
        desk, wood = Desk([ANN]), [PEOPLE]
        desk.name("a", wood)
        wood.append(EMPTY)
        desk.wood("a").clear()
        desk.names.clear()
        self.assertEqual((desk.wood("a"), desk.names), ([PEOPLE], ["a"]))

    def test_by_name_and_what_was_passed_stays(self):
        desk = some_desk()
        gone, come, wood = [ROME, ANN], [BOB, OSLO], [TOWNS, EMPTY]
        rows = [(gone, come), [("towns", wood)], (come, gone)]
        copies = [list(gone), list(come), list(wood), [(gone, come), [("towns", wood)], (come, gone)]]
        rehearsed(desk=desk, rows=rows, name="towns")
        desk.supposed(gone=gone, come=come, name="towns")
        desk.exchange(gone=gone, come=come)
        desk.strike(facts=come)
        desk.put(facts=gone)
        desk.name(name="a", wood=wood)
        desk.forget(name="towns")
        self.assertEqual([gone, come, wood, rows], copies)
        self.assertEqual((desk.names, desk.wood(name="a"), desk.news(name="a", steps=0)), (["a"], [TOWNS, EMPTY], ([], [])))
        self.assertEqual((desk.answers(name="a"), len(desk)), ([{}, FULL], 7))

    def test_bad_names(self):
        desk = some_desk()
        before = whole(desk)
        for value in [*ANY_VALUES, "A", "a" * 13, "1a", "towns ", ("towns",), ["towns"]]:
            if value != "a":
                for call in [lambda: desk.name(value, [None]), lambda: desk.name(value, [PEOPLE])]:
                    with self.subTest(value), self.assertRaises(NoName) as caught:
                        call()
                    self.assertIs(caught.exception.value, value)
            for call in [lambda: desk.forget(value), lambda: desk.wood(value), lambda: desk.answers(value),
                         lambda: desk.news(value, None), lambda: desk.supposed([], [], value),
                         lambda: rehearsed(desk, [(None, None)], value)]:
                with self.subTest(value), self.assertRaises(NoName) as caught:
                    call()
                self.assertIs(caught.exception.value, value)
        self.assertEqual(whole(desk), before)

    def test_bad_questions(self):
        desk = some_desk()
        before = whole(desk)
        for value in [*ANY_VALUES, PEOPLE.nodes, Store(), ONE_TOWN]:
            for call in [desk.name, lambda name, wood: rehearsed(desk, [(name, wood)], "towns")]:
                with self.subTest(value), self.assertRaises(BadQuestion) as caught:
                    call("a", [PEOPLE, value, None])
                self.assertIs(caught.exception.value, value)
        self.assertEqual(whole(desk), before)

    def test_supposed_raises_first_what_exchange_raises(self):
        desk = some_desk()
        self.assertRaises(Broken, desk.supposed, [], [OSLO], "none")
        self.assertRaises(NoName, desk.supposed, [], [BOB], "none")


class Steps(unittest.TestCase):
    """Points 143 and 144."""

    def test_undo_and_redo(self):
        desk = some_desk()
        self.assertEqual(len(desk), 2)
        self.assertIsNone(desk.undo())
        self.assertEqual((len(desk), desk.store), (1, Store([ANN])))
        desk.undo()
        self.assertEqual((len(desk), desk.names), (0, []))
        self.assertRaises(NothingToUndo, desk.undo)
        self.assertIsNone(desk.redo())
        self.assertEqual((len(desk), desk.names), (1, ["towns"]))
        desk.redo()
        self.assertEqual((len(desk), desk.store), (2, Store([ANN, ROME])))
        self.assertRaises(NothingToRedo, desk.redo)

    def test_a_step_ends_what_can_be_made_again(self):
        desk = some_desk()
        desk.undo()
        desk.put([BOB])
        self.assertRaises(NothingToRedo, desk.redo)
        desk.undo()
        self.assertEqual(desk.store, Store([ANN]))
        self.assertRaises(ThereAlready, desk.put, [ANN])
        desk.redo()
        self.assertEqual(desk.store, Store([ANN, BOB]))

    def test_news(self):
        desk = some_desk()
        self.assertEqual(desk.news("towns", 0), ([], []))
        self.assertEqual(desk.news("towns", 1), ([{"?x": "ann"}], [FULL]))
        self.assertEqual(desk.news(steps=2, name="towns"), ([{"?x": "ann"}], [FULL]))
        desk.strike([ROME, ANN])
        self.assertEqual(desk.news("towns", 1), ([FULL], []))
        self.assertEqual(desk.news("towns", 3), ([{"?x": "ann"}], []))
        desk.undo()
        # It is the wood that has the name now which is asked about.
        desk.name("towns", [PEOPLE, EMPTY])
        desk.exchange([ANN], [BOB])
        self.assertEqual(desk.news("towns", 2), ([{"?x": "ann"}], [{"?x": "bob"}]))

    def test_news_of_no_such_step(self):
        desk = some_desk()
        for value in [*ANY_VALUES, 3, -1, "0", (0,)]:
            if value in (0, 1, 2) and not isinstance(value, bool):
                self.assertIsInstance(desk.news("towns", value), tuple)
            else:
                self.assertRaises(NothingToUndo, desk.news, "towns", value)
        desk.undo()
        self.assertRaises(NothingToUndo, desk.news, "towns", 2)

    def test_what_is_returned_is_new(self):
        desk = some_desk()
        found = desk.answers("towns")
        found[0].clear()
        found.clear()
        for several in desk.news("towns", 1):
            several[0].clear()
            several.clear()
        self.assertEqual((desk.answers("towns"), desk.news("towns", 1)), ([FULL], ([{"?x": "ann"}], [FULL])))

    def test_properties_cannot_be_set(self):
        desk = some_desk()
        for name in ["store", "names"]:
            with self.assertRaises(AttributeError):
                setattr(desk, name, None)


class Trials(unittest.TestCase):
    """Point 145."""

    def test_trial(self):
        desk = some_desk()
        desk.undo()
        before = whole(desk)
        with desk.trial() as held:
            self.assertIs(held, desk)
            held.put([BOB])
            held.name("a", [PEOPLE])
            held.forget("towns")
            self.assertEqual((held.names, len(held)), (["a"], 4))
        self.assertEqual(whole(desk), before)
        desk.redo()
        self.assertEqual(desk.store, Store([ANN, ROME]))

    def test_what_is_taken_back_within(self):
        desk = some_desk()
        before = whole(desk)
        with desk.trial():
            desk.undo()
            desk.undo()
            desk.put([BOB])
        self.assertEqual(whole(desk), before)
        self.assertRaises(NothingToRedo, desk.redo)

    def test_ended_by_an_error(self):
        desk = some_desk()
        before = whole(desk)
        for error in [NotThere, KeyError]:
            with self.assertRaises(error):
                with desk.trial() as held:
                    held.put([BOB])
                    if error is KeyError:
                        raise KeyError
                    held.strike([OSLO])
            self.assertEqual(whole(desk), before)

    def test_within_one_another(self):
        desk = some_desk()
        before = whole(desk)
        with desk.trial():
            desk.put([BOB])
            inner = whole(desk)
            with self.assertRaises(ValueError):
                with desk.trial():
                    desk.strike([ANN])
                    with desk.trial():
                        desk.strike([BOB, ROME])
                        self.assertEqual(desk.store, Store())
                    self.assertEqual(desk.store, Store([BOB, ROME]))
                    raise ValueError
            self.assertEqual(whole(desk), inner)
        self.assertEqual(whole(desk), before)

    def test_begun_with_the_block(self):
        desk = some_desk()
        one = desk.trial()
        desk.put([BOB])
        with one as held:
            held.strike([ANN, BOB])
        self.assertEqual((desk.store, len(desk)), (Store([ANN, BOB, ROME]), 3))

    def test_supposed(self):
        desk = some_desk()
        before = whole(desk)
        self.assertEqual(desk.supposed([ROME], [OSLO, BOB], "towns"), [{"?x": "ann", "?y": "oslo"}, {"?x": "bob"}])
        self.assertEqual(desk.supposed(name="towns", come=(), gone=(ANN,)), [])
        self.assertEqual(desk.supposed([], [], "towns"), [FULL])
        self.assertEqual(whole(desk), before)


class Texts(unittest.TestCase):
    """Point 146."""

    def test_text(self):
        desk = some_desk()
        self.assertEqual(desk.text(), "person(ann)\ntown(ann,rome)\n= towns\nperson(?x)\n town(?x,?y)\n.")
        desk.name("all", [EMPTY, PEOPLE])
        desk.name("none", [])
        self.assertEqual(desk.text(), "person(ann)\ntown(ann,rome)\n= all\n-\n.\nperson(?x)\n.\n= none\n= towns\nperson(?x)\n"
                         " town(?x,?y)\n.")
        empty = Desk()
        empty.name("a", [])
        self.assertEqual(empty.text(), "= a")

    def test_read(self):
        desk = some_desk()
        desk.name("none", [])
        desk.name("all", [EMPTY, PEOPLE, EMPTY])
        again = read_desk(desk.text(), rules=[ONE_TOWN])
        self.assertEqual((again.text(), again.store, again.names, len(again)), (desk.text(), desk.store, desk.names, 0))
        self.assertEqual([again.wood(name) for name in again.names], [desk.wood(name) for name in desk.names])
        self.assertRaises(NothingToUndo, again.undo)
        self.assertRaises(Broken, again.put, [OSLO])
        self.assertEqual((read_desk("").text(), read_desk(text="").store, len(read_desk(""))), ("", Store(), 0))
        self.assertEqual(read_desk("halt()").store, Store([("halt",)]))
        self.assertEqual(read_desk("= a").wood("a"), [])

    def check_bad(self, text, line, rules=()):
        with self.subTest(text), self.assertRaises(BadLine) as caught:
            read_desk(text, rules=rules)
        self.assertEqual(caught.exception.line, line)

    def test_bad_lines(self):
        for text, line in [
                ("\n", 1), ("\n= a", 1), ("a()\n", 2), ("b()\na()", 2), ("a()\na()", 2), ("a(?x)", 1), ("a()\n\n= a", 2),
                ("= a\n", 2), ("=", 1), ("= ", 1), ("=a", 1), ("= A", 1), ("=  a", 1), ("= a ", 1), ("= ?a", 1),
                ("= a\n= a", 2), ("= b\n= a", 2), ("= a\n= b\n= a", 3), ("= a\n-", 2), ("= a\n-\n.\n-", 4),
                ("= a\n-\n.\n.", 4), ("= a\n.", 2), ("= a\n\n.", 2), ("= a\na()\n.\n= a", 4), ("= a\na(\n.", 2),
                ("= a\na(?x)\n a(?x)\n.", 2), ("= a\na(?x)\n= b\n.", 2), ("= a\na(?x)\n= b", 2), ("= a\n-\n.\n=b", 4),
                ("a()\n= a\na()\n.\n=", 5), (".", 1), ("-\n.", 1), ("a()\n.\n= a", 2), (" = a", 1), ("= a\n = b", 2),
                ("= a\n-\n. ", 2), ("= a\n -\n.", 2), ("= a\n=", 2), ("= a\n==", 2), ("= a\n-\n.\n= a\n-", 4),
                ("b()\na()\n=", 2), ("= a\n-\n.\n\n= b", 4), ("= abcdefghijklm", 1),
                ("==a", 1), ("=xa", 1), ("= a\n=\nb", 2)]:
            self.check_bad(text, line)

    def test_bad_lines_come_ahead_of_broken_rules(self):
        text = "town(ann,oslo)\ntown(ann,rome)\n= a\nperson(?x)\n."
        with self.assertRaises(Broken) as caught:
            read_desk(text, rules=[ONE_TOWN])
        self.assertEqual((caught.exception.index, caught.exception.shown), (0, [OSLO, ROME]))
        self.check_bad(text + "\n.", 6, [ONE_TOWN])
        self.check_bad(text[:-2], 4, [ONE_TOWN])

    def test_changed_texts(self):
        # Lines changed, left out and twice: what is read is right, and what is not read, is wrong from that line on.
        desk = some_desk()
        desk.name("all", [EMPTY, PEOPLE])
        desk.name("none", [])
        lines = desk.text().split("\n")
        read = 0
        for at, line in enumerate(lines):
            for others in [[], [line, line], [line + " "], [" " + line], ["."], ["="], ["= m"], ["-"], [""], ["halt()"],
                           ["person(?x)"], [line, "."], [line, "= zz"]]:
                text = "\n".join([*lines[:at], *others, *lines[at + 1:]])
                wrong = slow_wrong_line(text)
                if wrong is None:
                    read += 1
                    self.assertEqual(read_desk(text).text(), text)
                else:
                    self.check_bad(text, wrong)
        self.assertGreater(read, 15)

    def test_random_texts(self):
        numbers = dice(146)
        pieces = ["a()", "b(k)", "b(m)", "= a", "= b", "= c", "-", ".", "a(?x)", " b(?x,?y)", "  b(?y,?z)", "", "=", " a(?x)"]
        seen = {True: 0, False: 0}
        for _ in range(6000):
            text = "\n".join(numbers.choices(pieces, k=numbers.randint(0, 6)))
            wrong = slow_wrong_line(text)
            seen[wrong is None] += 1
            if wrong is None:
                self.assertEqual(read_desk(text).text(), text)
            else:
                self.check_bad(text, wrong)
        self.assertGreater(min(seen.values()), 50)


def slow_wrong_line(text):
    """The number of the first wrong line of the text of a desk, by looking at each line alone, or None."""
    lines = text.split("\n") if text else []
    headers = [at for at, line in enumerate(lines) if line[:1] == "="]
    begin = headers[0] if headers else len(lines)
    names = ["", *[lines[at][2:] for at in headers]]
    for at, line in enumerate(lines):
        if at < begin:
            # The text of a store alone tells of its lines, but for an empty text, which has none.
            try:
                Store.read("\n".join(lines[:at + 1]))
            except BadLine:
                return at + 1
            if line == "":
                return at + 1
        elif at in headers:
            name, before = names[headers.index(at) + 1], names[headers.index(at)]
            if line[:2] != "= " or not is_plain_name(name) or name <= before:
                return at + 1
        elif at - 1 in headers or lines[at - 1] == ".":
            ends = [end for end in range(at, len(lines)) if lines[end] == "."]
            try:
                Question.read("\n".join(lines[at:ends[0]]))
            except (ValueError, IndexError):
                return at + 1
    return None


def is_plain_name(name):
    return 1 <= len(name) <= 12 and name[0] in "abcdefghijklmnopqrstuvwxyz" and all(
        sign in "abcdefghijklmnopqrstuvwxyz0123456789" for sign in name)


class Rehearsals(unittest.TestCase):
    """Point 147."""

    def test_rehearsed(self):
        desk = some_desk()
        before = whole(desk)
        rows = [([], [BOB]), [([ANN], []), [([BOB], [])], ("towns", [EMPTY])], ("other", []), ("towns", [PEOPLE])]
        self.assertEqual(rehearsed(desk, rows, "towns"), [
            [FULL, {"?x": "bob"}], [[{"?x": "bob"}], [[]], [{}]], [FULL, {"?x": "bob"}], [{"?x": "ann"}, {"?x": "bob"}]])
        self.assertEqual(whole(desk), before)
        self.assertEqual(rehearsed(desk=desk, rows=[], name="towns"), [])
        self.assertEqual(rehearsed(desk, [[], [[]]], "towns"), [[], [[]]])
        self.assertEqual(rehearsed(desk, ((([], [BOB]),) * 1), "towns"), [[FULL, {"?x": "bob"}]])

    def test_behind_a_list_all_is_as_ahead_of_it(self):
        desk = some_desk()
        rows = [[([ROME], []), ("towns", [PEOPLE])], ([], [BOB])]
        self.assertEqual(rehearsed(desk, rows, "towns")[1], [FULL, {"?x": "bob"}])

    def test_errors(self):
        desk = some_desk()
        before = whole(desk)
        for rows, error in [([([], [ANN])], ThereAlready), ([([], [BOB]), [([ANN], []), ([ANN], [])]], NotThere),
                            ([("A", [])], NoName), ([("", [None])], NoName), ([("a", [None])], BadQuestion),
                            ([[[([], [OSLO])]]], Broken), ([([], [None]), ([ROME], [])], BadFact)]:
            self.assertRaises(error, rehearsed, desk, rows, "towns")
            self.assertRaises(NoName, rehearsed, desk, rows, "none")
            self.assertEqual(whole(desk), before)

    def test_ten_deep(self):
        desk = Desk([ANN])
        desk.name("all", [PEOPLE])
        rows = [([], [("person", "p9")])]
        for at in range(9):
            rows = [([], [("person", f"p{8 - at}")]), rows]
        found = rehearsed(desk, rows, "all")
        for depth in range(10):
            self.assertEqual(len(found[0]), depth + 2)
            found = found[-1]

    def test_by_definition(self):
        numbers = dice(147)
        seen = {True: 0, False: 0}
        for _ in range(200):
            desk = Desk(rules=some_rules(numbers))
            desk.name("a", some_wood(numbers))
            rows = some_rows(numbers, 3)
            before = whole(desk)
            try:
                wanted = slow_rehearsed(desk.store.facts, {"a": desk.wood("a")}, desk, rows)
            except RowsError as error:
                with self.assertRaises(error.__class__) as caught:
                    rehearsed(desk, rows, "a")
                self.assertEqual(vars(caught.exception), vars(error))
                seen[False] += 1
            else:
                self.assertEqual(rehearsed(desk, rows, "a"), wanted)
                seen[True] += 1
            self.assertEqual(whole(desk), before)
        self.assertGreater(min(seen.values()), 20)


def some_rows(numbers, depth):
    """Rows for a rehearsal; most of them can be made."""
    rows = []
    for _ in range(numbers.randint(0, 3)):
        kind = numbers.random()
        if kind < 0.3 and depth:
            rows.append(some_rows(numbers, depth - 1))
        elif kind < 0.5:
            rows.append((numbers.choice(["a", "a", "b"]), some_wood(numbers)))
        else:
            rows.append(([], numbers.sample(FACTS, 1)))
    return rows


def slow_rehearsed(facts, woods, desk, rows):
    """Point 147 on plain facts and woods; a desk made anew tells what exchange and name raise."""
    found = []
    for row in rows:
        if isinstance(row, list):
            found.append(slow_rehearsed(facts, woods, desk, row))
            continue
        if isinstance(row[0], str):
            woods = {**woods, row[0]: list(row[1])}
        else:
            other = Desk(facts, rules=desk._rules)
            other.exchange(*row)
            facts = other.store.facts
        found.append(answers(woods["a"], Store(facts)))
    return found


class Model(unittest.TestCase):
    """Points 140 to 145: a desk beside a plain list of all that it has been."""

    def test_random_steps(self):
        numbers = dice(140)
        made = {}
        for _ in range(120):
            rules = some_rules(numbers)
            desk = Desk(rules=rules) if slow_keeps((), rules) else None
            if desk is None:
                self.assertRaises(Broken, Desk, rules=rules)
                continue
            model = Model.Plain(rules)
            for _ in range(40):
                step = model.some_step(numbers)
                made[step[0]] = made.get(step[0], 0) + 1
                self.same(desk, model, step)
        self.assertEqual(len(made), 8)
        self.assertGreater(min(made.values()), 100)

    def same(self, desk, model, step):
        wanted = model.make(*step)
        if wanted is None:
            getattr(desk, step[0])(*step[1:])
        else:
            with self.assertRaises(wanted[0]) as caught:
                getattr(desk, step[0])(*step[1:])
            self.assertEqual(vars(caught.exception), wanted[1])
        facts, woods = model.states[model.at]
        self.assertEqual((desk.store.facts, desk.names, len(desk)), (tuple(sorted(facts)), sorted(woods), model.at))
        for name in woods:
            self.assertEqual(desk.wood(name), woods[name])
            self.assertEqual(told(desk.answers(name)), told(answers(woods[name], Store(facts))))
            for steps in range(model.at + 1):
                before = Store(model.states[model.at - steps][0])
                self.assertEqual(desk.news(name, steps), changes(woods[name], before, Store(facts)))

    class Plain:
        """All that a desk has been, and at which place of this it is now."""

        def __init__(self, rules):
            self.rules = rules
            self.states = [((), {})]
            self.at = 0

        def some_step(self, numbers):
            facts, woods = self.states[self.at]
            some = numbers.sample(FACTS, numbers.randint(0, 2))
            gone = numbers.sample(list(facts), min(len(facts), numbers.randint(0, 2)))
            name = numbers.choice(["a", "b", "c1"])
            return numbers.choice([
                ("exchange", gone, some), ("put", some), ("strike", gone), ("strike", [*gone, *some]),
                ("name", name, some_wood(numbers, 1, 2)), ("name", "B", []), ("forget", name), ("undo",), ("undo",),
                ("redo",), ("redo",), ("exchange", gone * 2, some), ("put", some * 2), ("put", [*some, ("a", "?x")]),
                ("news", name, -1)])

        def go(self, facts, woods):
            self.states = [*self.states[:self.at + 1], (facts, woods)]
            self.at += 1

        def make(self, kind, *told):
            """Makes a step; what it raises is returned, as its class and its attributes."""
            facts, woods = self.states[self.at]
            if kind in ("undo", "redo"):
                other = self.at + (1 if kind == "redo" else -1)
                if not 0 <= other < len(self.states):
                    return (NothingToRedo if kind == "redo" else NothingToUndo), {}
                self.at = other
                return None
            if kind == "news":
                return (NothingToUndo, {}) if told[0] in woods else (NoName, {"value": told[0]})
            if kind == "name":
                if told[0] == "B":
                    return NoName, {"value": "B"}
                return self.go(facts, {**woods, told[0]: told[1]})
            if kind == "forget":
                if told[0] not in woods:
                    return NoName, {"value": told[0]}
                return self.go(facts, {name: wood for name, wood in woods.items() if name != told[0]})
            gone, come = {"exchange": told, "put": ([], *told), "strike": (*told, [])}[kind]
            return self.exchange(facts, woods, gone, come)

        def exchange(self, facts, woods, gone, come):
            for at, fact in enumerate(gone):
                if fact not in facts or fact in gone[:at]:
                    return NotThere, {"fact": fact}
            for fact in come:
                if fact == ("a", "?x"):
                    return BadFact, {"value": fact}
            left = [fact for fact in facts if fact not in gone]
            for at, fact in enumerate(come):
                if fact in left or fact in come[:at]:
                    return ThereAlready, {"fact": fact}
            after = tuple(sorted([*left, *come]))
            if not slow_keeps(after, self.rules):
                index, shown = broken(Store(after), self.rules)
                return Broken, {"index": index, "shown": shown}
            return self.go(after, woods)

    def test_sixty_steps(self):
        desk = Desk(rules=[Key("e", 2, [0])])
        desk.name("all", [Question.read("e(?x,?y)\n e(?y,?z)")])
        for at in range(59):
            desk.put([("e", f"v{at}", f"v{at + 1}")])
        self.assertEqual((len(desk), len(desk.answers("all"))), (60, 59))
        self.assertEqual([len(several) for several in desk.news("all", 59)], [0, 59])
        for _ in range(60):
            desk.undo()
        self.assertEqual(desk.text(), "")
        for _ in range(60):
            desk.redo()
        self.assertEqual(len(desk.answers("all")), 59)


if __name__ == "__main__":
    unittest.main()
