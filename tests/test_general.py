"""Points 8 and 9: arguments by name, nothing passed is changed, what is returned is new each time."""

import copy
import unittest

from fullestrows import (
    answers, complete, containment, desk, facts, forms, games, later as laters, matching, questions, reasons, rules, shown,
    thinning, unknowns,
)
from fullestrows.desk import Desk
from fullestrows.facts import Store
from fullestrows.forms import Form
from fullestrows.questions import Question
from fullestrows.rules import Key, Rule

ROWS = (("e", "a", "b"), ("e", "b", "c"), ("n", "b"))


def store():
    return Store(list(ROWS))


def lot():
    return [("e", "?x", "?y"), ("n", "?y"), ("e", "?x", "?y")]


def some_rules():
    return [Key("e", 2, [0]), Rule([("e", "?p", "?q")], ("n", "?q"))]


def nodes():
    return [(None, [("n", "?y"), ("n", "?x")]), (0, [("m", "?x", "?z")]), (1, [("e", "?z", "?w"), ("n", "?w")])]


def wood():
    return [Question(nodes()), Question([(None, [("n", "?x")]), (0, [("e", "?x", "?y")])])]


def form():
    return (Form.lot([("n", "?x"), ("e", "?y", "?x")]) | Form.lot([("m", "?x")])).opt(Form.lot([("e", "?x", "?z")]))


def later():
    return Store([("e", "b", "c"), ("m", "b", "e"), ("n", "b"), ("n", "c")])


def kept():
    """A store that keeps the rules."""
    return Store([*ROWS, ("n", "c")])


def others():
    return [Question([(None, [("n", "?x")])]), *wood(), Question([(None, [("n", "?x")]), (0, [("k", "?x", "?v")])])]


def some_desk():
    """A desk with woods and steps."""
    held = Desk([*ROWS, ("n", "c")], rules=some_rules())
    held.name("some", wood())
    held.name("none", [])
    held.put([("m", "b", "e")])
    return held


TOLD = {"?y": "b", "?x": "b"}
QUESTION = Question(nodes())
DESK = some_desk()
FORM = form()
PLAY = {"lot": [("n", "?b"), ("n", "?a"), ("n", "?b")], "wood": wood(), "known": {"?y": "?b", "?x": "?a"}}
GOALS = {"goals": [[("f", "?x")], [("e", "?q", "?r")]], "rules": [Rule([("m", "?p", "?q")], ("e", "?q", "?q"))]}
PAPER = games.spoil(**PLAY, **GOALS)[1]

# Each function with its arguments by the names that the interface gives them, in its order.
CALLS = [
    (facts.is_name, {"value": ["a"]}),
    (facts.is_variable, {"value": {"?a": []}}),
    (facts.is_pattern, {"value": ["a", ["?x"]]}),
    (facts.is_fact, {"value": ("a", ["b"])}),
    (facts.variables_of, {"lot": lot()}),
    (facts.filled, {"pattern": ("e", "?x", "?y"), "known": {"?y": "b", "?x": "?q"}}),
    (facts.pattern_text, {"pattern": ("e", "?x")}),
    (facts.read_pattern, {"text": "e(?x)"}),
    (facts.Store, {"facts": [("b",), ("a",), ("b",)]}),
    (Store.read, {"text": "a()\nb()"}),
    (store().within, {"other": store()}),
    (store().only, {"tables": ["n", "e", "n"]}),
    (matching.each_map, {"lot": lot(), "store": store(), "known": {"?z": "q", "?x": "a"}}),
    (matching.maps, {"lot": lot(), "store": store(), "known": {"?z": "q", "?x": "a"}}),
    (matching.first_map, {"lot": lot(), "store": store(), "known": {"?z": "q", "?x": "a"}}),
    (matching.count_maps, {"lot": lot(), "store": store(), "known": {"?z": "q", "?x": "a"}}),
    (matching.map_between, {"lot": lot(), "others": [("n", "?b"), ("e", "?a", "?b"), ("n", "?b")],
                            "known": {"?z": "?q", "?x": "?a"}}),
    (matching.agree, {"one": {"?y": "b", "?x": "a"}, "other": {"?x": "a"}}),
    (matching.joined, {"one": {"?y": "b", "?x": "a"}, "other": {"?w": "c"}}),
    (matching.is_above, {"one": {"?y": "b", "?x": "a"}, "other": {"?x": "a"}}),
    (matching.only_keys, {"known": {"?y": "b", "?x": "a"}, "variables": ["?y", "?x"]}),
    (matching.in_order, {"several": [{"?y": "b", "?x": "a"}, {"?x": "a"}]}),
    (rules.Key, {"table": "a", "size": 2, "places": [1, 0]}),
    (rules.Rule, {"body": lot(), "head": ("m", "?x")}),
    (rules.broken, {"store": store(), "rules": some_rules()}),
    (rules.keeps, {"store": store(), "rules": some_rules()}),
    (rules.closed, {"lot": lot(), "rules": some_rules()}),
    (rules.store_of, {"lot": lot(), "taken": ["new2", "new1"]}),
    (questions.Question, {"nodes": nodes()}),
    (Question.read, {"text": QUESTION.text()}),
    (QUESTION.new_variables, {"index": 0}),
    (QUESTION.is_part, {"value": [0]}),
    (QUESTION.parts, {}),
    (QUESTION.next_nodes, {"part": (0,)}),
    (QUESTION.variables, {"part": (0, 1)}),
    (QUESTION.patterns, {"part": (0, 1)}),
    (QUESTION.part_with, {"variables": ["?z", "?y", "?x", "?y"]}),
    (QUESTION.text, {}),
    (QUESTION.renamed, {"names": {"?y": "?x", "?x": "?y"}}),
    (answers.answers, {"wood": wood(), "store": later()}),
    (answers.each_answer, {"wood": wood(), "store": later()}),
    (answers.by_part, {"question": QUESTION, "store": later()}),
    (answers.tellers, {"wood": wood(), "store": store(), "known": TOLD}),
    (answers.is_answer, {"wood": wood(), "store": store(), "known": TOLD}),
    (answers.fullest, {"question": QUESTION, "store": later(), "known": TOLD}),
    (answers.lost, {"wood": wood(), "store": store(), "later": later()}),
    (answers.changes, {"wood": wood(), "store": store(), "later": later()}),
    (Form.lot, {"patterns": lot()}),
    (Form.read, {"text": FORM.text()}),
    (FORM.opt, {"other": form()}),
    (FORM.variables, {}),
    (FORM.text, {}),
    (forms.meaning, {"form": form(), "store": store()}),
    (forms.arms, {"form": form()}),
    (forms.loose, {"form": Form.lot([("a",)]).opt(FORM.halves[1]) & FORM}),
    (forms.wood_of, {"form": form()}),
    (forms.form_of, {"wood": wood()}),
    (forms.shrunk, {"form": form(), "store": store(), "later": Store([("m", "b")])}),
    (games.candidates, PLAY),
    (games.goes_on, {**PLAY, "tree": 0, "part": (0,)}),
    (games.spoil, PLAY),
    (games.is_lost, {"paper": PAPER, **PLAY}),
]

SHOWN = ["?z", "?x", "?x", "?q"]
# Calls of functions that take rules by name.
WITH_RULES = [
    (containment.contained, {"wood": wood(), "others": others()}),
    (containment.papers, {"wood": wood(), "others": others()}),
    (containment.are_papers, {"value": containment.papers(wood(), others()), "wood": wood(), "others": others()}),
    (containment.parting, {"wood": others(), "others": wood()}),
    (containment.parts_them, {"store": kept(), "answer": {"?x": "c"}, "wood": others(), "others": wood()}),
    (containment.never_answers, {"wood": others()}),
    (containment.always_alone, {"wood": others()}),
    (containment.shared, {"wood": others()}),
    (thinning.alike, {"wood": wood(), "others": others()}),
    (thinning.unlike, {"wood": wood(), "others": others()}),
    (thinning.needless, {"wood": [*wood(), *wood()]}),
    (thinning.thinned, {"wood": [*wood(), *wood()]}),
    (thinning.always_had, {"question": wood()[1]}),
    (thinning.tightened, {"question": wood()[1]}),
    (shown.part_of, {"wood": wood(), "others": others(), "shown": SHOWN}),
    (shown.ways, {"wood": wood(), "others": others(), "shown": SHOWN}),
    (shown.are_ways, {"value": shown.ways(wood(), others(), SHOWN), "wood": wood(), "others": others(),
                      "shown": SHOWN}),
    (shown.unmet, {"wood": wood(), "others": others()[:1], "shown": SHOWN}),
    (shown.is_unmet, {"store": kept(), "answer": TOLD, "wood": wood(), "others": others()[:1], "shown": SHOWN}),
    (shown.needless_nodes, {"wood": others(), "shown": SHOWN}),
    (laters.is_final, {"wood": wood(), "store": kept(), "known": TOLD}),
    (laters.final_paper, {"wood": [*wood(), Question([(None, [("n", "?x"), ("n", "?y")])])], "store": kept(),
                          "known": TOLD}),
    (laters.is_final_paper, {"value": ("put", 0, (0,), [(1, ("clash",))]), "wood": wood(), "store": kept(),
                             "known": TOLD}),
    (laters.undoing, {"wood": wood(), "store": kept(), "known": TOLD}),
    (laters.undoes, {"facts": [("m", "b", "a"), ("n", "b")], "wood": wood(), "store": kept(), "known": TOLD}),
    (laters.final_answers, {"wood": wood(), "store": kept()}),
    (laters.always_final, {"wood": wood()}),
    (laters.unsettled, {"wood": wood()}),
    (unknowns.is_sure, {"known": {"?y": "b", "?x": "a"}, "wood": wood(), "lot": lot()}),
    (unknowns.sure_maps, {"wood": wood(), "lot": [*lot(), ("n", "b"), ("e", "b", "?u")]}),
    (unknowns.why_sure, {"known": {}, "wood": wood(), "lot": lot()}),
    (unknowns.is_why, {"value": (1, (0,), {"?x": "?y"}), "known": {}, "wood": wood(), "lot": lot()}),
    (unknowns.against, {"known": {"?y": "b", "?x": "a"}, "wood": wood(), "lot": lot()}),
    (complete.is_later, {"later": kept(), "store": Store([("n", "c")])}),
    (complete.is_settled, {"wood": wood(), "store": kept(), "known": TOLD}),
    (complete.settled_paper, {"wood": [*wood(), Question([(None, [("n", "?x"), ("n", "?y")])])], "store": kept(),
                              "known": TOLD}),
    (complete.is_settled_paper, {"value": ("put", 0, (0,), [(1, {"?z": None}, ("barred",))]), "wood": wood(),
                                 "store": kept(), "known": TOLD}),
    (complete.unsettling, {"wood": wood(), "store": kept(), "known": TOLD}),
    (complete.unsettles, {"facts": [("m", "b", "a"), ("n", "b")], "wood": wood(), "store": kept(), "known": TOLD}),
    (complete.settled_answers, {"wood": wood(), "store": kept()}),
    (complete.enough_tables, {"wood": wood(), "store": kept(), "known": TOLD}),
    (Desk, {"facts": [("n", "b"), ("n", "a"), ("n", "b")]}),
    (desk.read_desk, {"text": some_desk().text()}),
]
CALLS += WITH_RULES
CALLS += [
    (thinning.strikes, {"wood": wood()}),
    (thinning.struck, {"wood": wood(), "strike": ("pattern", 0, 0, ("n", "?y"))}),
    (shown.shown_answers, {"wood": wood(), "store": later(), "shown": SHOWN}),
    (shown.without_node, {"question": QUESTION, "node": 2}),
    (reasons.support, {"wood": wood(), "store": kept(), "known": TOLD}),
    (reasons.why_not, {"wood": wood(), "store": kept(), "known": {"?x": "b"}}),
    (reasons.needed, {"wood": wood(), "store": kept(), "known": TOLD}),
    (reasons.in_the_way, {"wood": wood(), "store": kept(), "known": {"?x": "b"}}),
    (reasons.clearing, {"wood": wood(), "store": kept(), "known": {"?x": "b"}}),
    (reasons.lacking, {"question": QUESTION, "store": kept(), "known": TOLD, "node": 1}),
    (unknowns.is_possible, {"store": kept(), "lot": lot(), "rules": some_rules()}),
    (unknowns.some_store, {"lot": lot(), "rules": some_rules()}),
    (complete.tables_of, {"wood": wood()}),
    (DESK.wood, {"name": "some"}),
    (DESK.answers, {"name": "some"}),
    (DESK.news, {"name": "some", "steps": 1}),
    (DESK.supposed, {"gone": [("e", "b", "c"), ("n", "c")], "come": [("n", "a")], "name": "some"}),
    (DESK.text, {}),
    (desk.rehearsed, {"desk": DESK, "rows": [([], [("n", "a")]), [([("n", "c"), ("e", "b", "c")], []), ("some", [])],
                                             ("none", wood())], "name": "some"}),
]

# Calls with arguments behind a *, which are passed by name only.
FURTHER = [(function, arguments, {"rules": [Rule([("e", "?p", "?q")], ("n", "?q"))]})
           for function, arguments in WITH_RULES]
FURTHER += [(function, arguments, {"rules": some_rules()}) for function, arguments in WITH_RULES
            if function not in (laters.always_final, laters.unsettled)]
FURTHER += [(function, arguments, {"complete": ["m", "n", "m"], "rules": some_rules()}) for function, arguments in WITH_RULES
            if function.__module__ == complete.__name__ and function is not complete.enough_tables]
FURTHER += [
    (games.spoil, PLAY, GOALS),
    (games.spoil, PLAY, {"rules": [Key("n", 1, [])], "goals": [[("e", "?q", "?r")]]}),
    (games.is_lost, {"paper": PAPER, **PLAY}, GOALS),
]


def outcome(function, *by_position, **by_name):
    """What a call returns; of a generator, what it yields."""
    result = function(*by_position, **by_name)
    return list(result) if function in (matching.each_map, answers.each_answer) else result


def as_tuples(value):
    """All lists in a value as tuples."""
    if isinstance(value, (list, tuple)):
        return tuple(as_tuples(item) for item in value)
    return value


def spoil(value):
    """Empties all lists and dicts in a value."""
    if isinstance(value, (list, tuple, dict)):
        for item in list(value.values()) if isinstance(value, dict) else value:
            spoil(item)
    if isinstance(value, (list, dict)):
        value.clear()


def plain(value):
    """Values with the order of the keys of dicts, and objects by what they tell."""
    if isinstance(value, Store):
        return "store", value.facts
    if isinstance(value, Key):
        return "key", value.table, value.size, value.places
    if isinstance(value, Rule):
        return "rule", value.body, value.head
    if isinstance(value, Question):
        return "question", value.nodes
    if isinstance(value, Form):
        return "form", value.text()
    if isinstance(value, Desk):
        return "desk", value.text(), len(value), value.store.facts
    if isinstance(value, dict):
        return "dict", [(key, plain(item)) for key, item in value.items()]
    if isinstance(value, (list, tuple)):
        return value.__class__.__name__, [plain(item) for item in value]
    return value


class Calls(unittest.TestCase):
    def test_every_function_is_called(self):
        listed = {
            facts: "is_name is_variable is_pattern is_fact variables_of filled pattern_text read_pattern Store",
            matching: "each_map maps first_map count_maps map_between agree joined is_above only_keys in_order",
            rules: "Key Rule broken keeps closed store_of",
            questions: "Question",
            answers: "answers each_answer by_part tellers is_answer fullest lost changes",
            forms: "meaning arms loose wood_of form_of shrunk",
            games: "candidates goes_on spoil is_lost",
            containment: "contained papers are_papers parting parts_them never_answers always_alone shared",
            thinning: "alike unlike strikes struck needless thinned always_had tightened",
            shown: "shown_answers part_of ways are_ways unmet is_unmet needless_nodes without_node",
            laters: "is_final final_paper is_final_paper undoing undoes final_answers always_final unsettled",
            reasons: "support why_not needed in_the_way clearing lacking",
            unknowns: "is_possible some_store is_sure sure_maps why_sure is_why against",
            desk: "Desk read_desk rehearsed",
            complete: "is_later is_settled settled_paper is_settled_paper unsettling unsettles settled_answers tables_of"
                      " enough_tables"}
        called = {function for function, _ in CALLS}
        for module, names in listed.items():
            for name in names.split():
                self.assertIn(getattr(module, name), called)

    def test_by_name_as_by_position(self):
        for function, arguments in CALLS:
            with self.subTest(function.__name__):
                names = dict(reversed(list(arguments.items())))
                self.assertEqual(plain(outcome(function, **names)), plain(outcome(function, *arguments.values())))

    def test_nothing_passed_is_changed(self):
        for function, arguments in CALLS:
            with self.subTest(function.__name__):
                before = plain(copy.deepcopy(arguments))
                outcome(function, **arguments)
                self.assertEqual(plain(arguments), before)

    def test_what_is_returned_is_new(self):
        for function, arguments in CALLS:
            with self.subTest(function.__name__):
                result = outcome(function, **arguments)
                before = plain(copy.deepcopy(result))
                spoil(result)
                self.assertEqual(plain(outcome(function, **arguments)), before)

    def test_what_is_returned_is_not_what_was_passed(self):
        for function, arguments in CALLS:
            with self.subTest(function.__name__):
                before = plain(copy.deepcopy(arguments))
                spoil(outcome(function, **arguments))
                self.assertEqual(plain(arguments), before)

    def test_tuples_for_lists(self):
        # In a row of a rehearsal a list is not the same as a tuple.
        any_values = (facts.is_name, facts.is_variable, facts.is_pattern, facts.is_fact, QUESTION.is_part, desk.rehearsed)
        for function, arguments in CALLS:
            with self.subTest(function.__name__):
                if function not in any_values:
                    others = {name: as_tuples(value) for name, value in arguments.items()}
                    self.assertEqual(plain(outcome(function, **others)), plain(outcome(function, **arguments)))

    def test_behind_the_star(self):
        for function, arguments, named in FURTHER:
            with self.subTest(function.__name__):
                before = plain(copy.deepcopy([arguments, named]))
                result = function(**arguments, **named)
                told = plain(copy.deepcopy(result))
                self.assertEqual(plain(function(*arguments.values(), **named)), told)
                self.assertEqual(plain(function(**{name: as_tuples(value) for name, value in arguments.items()},
                                                **{name: as_tuples(value) for name, value in named.items()})), told)
                spoil(result)
                self.assertEqual(plain(function(**arguments, **named)), told)
                self.assertEqual(plain([arguments, named]), before)
                with self.assertRaises(TypeError):
                    function(*arguments.values(), *named.values())

    def test_defaults_of_rules(self):
        for function, arguments in WITH_RULES:
            self.assertEqual(plain(function(**arguments)), plain(function(**arguments, rules=[])))

    def test_every_call_with_rules_is_further(self):
        named = {function for function, _, _ in FURTHER}
        self.assertLessEqual({function for function, _ in WITH_RULES}, named)

    def test_defaults_of_plays(self):
        self.assertEqual(games.spoil(**PLAY), games.spoil(**PLAY, goals=(), rules=()))
        self.assertEqual(games.is_lost(PAPER, **PLAY), games.is_lost(PAPER, **PLAY, goals=[], rules=[]))
        self.assertEqual(QUESTION.variables(), ["?w", "?x", "?y", "?z"])
        self.assertEqual(QUESTION.patterns(), QUESTION.patterns(part=None))

    def test_defaults(self):
        self.assertEqual(Store().facts, ())
        self.assertEqual(list(matching.each_map([("n", "?x")], store())), [{"?x": "b"}])
        self.assertEqual(matching.maps([("n", "?x")], store(), None), [{"?x": "b"}])
        self.assertEqual(matching.first_map([("n", "?x")], store()), {"?x": "b"})
        self.assertEqual(matching.count_maps([("n", "?x")], store()), 1)
        self.assertEqual(matching.map_between([("n", "?x")], [("n", "?x")]), {"?x": "?x"})
        self.assertEqual(rules.store_of([("n", "?x")])[1], {"?x": "new1"})

    def test_each_map_goes_on_with_what_was_passed(self):
        wanted, known = [("e", "?x", "?y")], {"?z": "q"}
        steps = matching.each_map(wanted, store(), known)
        first = next(steps)
        wanted.clear()
        known.clear()
        first.clear()
        self.assertEqual(list(steps), [{"?x": "b", "?y": "c", "?z": "q"}])

    def test_stores_stay_as_they_are(self):
        held = store()
        for other in [held + Store([("x",)]), held - held, held.only(["n"])]:
            self.assertIsNot(other, held)
        held.constants().append("z")
        self.assertEqual((held.facts, held.constants(), held.text()), (ROWS, ["a", "b", "c"], "e(a,b)\ne(b,c)\nn(b)"))

    def test_breaches_are_new(self):
        held = Store([("e", "a", "b"), ("e", "a", "c")])
        for rule in some_rules():
            found = rules.broken(held, [rule])
            found[1].clear()
            self.assertEqual(len(rules.broken(held, [rule])[1]), 2 if isinstance(rule, Key) else 1)

    def test_limits_do_not_hold_for_what_was_returned(self):
        wide = [("n", f"?x{at}") for at in range(70)]
        patterns, _ = rules.closed(wide, [Rule([("n", "?p"), ("n", "?q")], ("e", "?p", "?q"))])
        self.assertEqual(len(patterns), 70 + 70 * 70)
        held, names = rules.store_of(patterns)
        self.assertEqual(len(held), len(patterns))
        self.assertEqual(matching.first_map(patterns[-70:], held), {name: "new1" for name in names})
        self.assertEqual(matching.map_between(wide[:20], patterns), {f"?x{at}": "?x0" for at in range(20)})


if __name__ == "__main__":
    unittest.main()
