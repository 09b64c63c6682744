import unittest

from fullestrows.answers import answers, by_part, changes, fullest, is_answer, lost, tellers
from fullestrows.complete import (
    enough_tables, is_later, is_settled, is_settled_paper, settled_answers, settled_paper, tables_of, unsettles,
    unsettling,
)
from fullestrows.containment import (
    always_alone, are_papers, contained, never_answers, papers, parting, parts_them, shared,
)
from fullestrows.desk import Desk, read_desk, rehearsed
from fullestrows.errors import BadLine, BadStrike, Broken, Clash, Loose, NoPart, NotAnAnswer, OrBelow
from fullestrows.facts import Store, filled, is_fact, is_pattern, pattern_text, read_pattern, variables_of
from fullestrows.forms import Form, arms, form_of, loose, meaning, shrunk, wood_of
from fullestrows.games import candidates, goes_on, is_lost, spoil
from fullestrows.later import (
    always_final, final_answers, final_paper, is_final, is_final_paper, undoes, undoing, unsettled,
)
from fullestrows.matching import (
    agree, count_maps, first_map, in_order, is_above, joined, map_between, maps, only_keys,
)
from fullestrows.questions import Question
from fullestrows.reasons import clearing, in_the_way, lacking, needed, support, why_not
from fullestrows.rules import Key, Rule, broken, closed, keeps, store_of
from fullestrows.shown import are_ways, is_unmet, needless_nodes, part_of, shown_answers, unmet, ways
from fullestrows.thinning import alike, always_had, needless, strikes, struck, thinned, tightened, unlike
from fullestrows.unknowns import against, is_possible, is_sure, is_why, some_store, sure_maps, why_sure


class Examples(unittest.TestCase):
    """The examples of the interface."""

    def check(self, shown, wanted):
        """The text of what is shown is that of the document, the order of the keys included."""
        self.assertEqual(shown, wanted)
        self.assertEqual(repr(shown), repr(wanted))

    def test_facts(self):
        store = Store([("town", "ann", "rome"), ("age", "bob", "a30"), ("town", "ann", "rome")])
        self.check(
            [store.facts, len(store), ("age", "bob", "a30") in store, store.constants(), store.text()],
            [(('age', 'bob', 'a30'), ('town', 'ann', 'rome')), 2, True, ['a30', 'ann', 'bob', 'rome'],
             'age(bob,a30)\ntown(ann,rome)'])
        self.check(
            [is_pattern(("town", "?x", "rome")), is_fact(("town", "?x", "rome")), is_pattern(("?t", "a")),
             filled(("town", "?x", "?y"), {"?x": "ann"})],
            [True, False, False, ('town', 'ann', '?y')])
        self.check(
            [pattern_text(("town", "?x", "rome")), read_pattern("halt()"), read_pattern("town(?x, rome)")],
            ['town(?x,rome)', ('halt',), None])
        self.check(
            [variables_of([("town", "?x", "?y"), ("age", "?x", "a3")]), len(store - Store([("age", "bob", "a30")])),
             Store.read("halt()") == Store([("halt",)])],
            [['?x', '?y'], 1, True])
        with self.assertRaises(BadLine) as caught:
            Store.read("town(ann,rome)\nage(bob,a30)")
        self.assertEqual(caught.exception.line, 2)

    def test_matching(self):
        store = Store([("town", "ann", "rome"), ("town", "bob", "oslo"), ("mayor", "oslo", "eve")])
        self.check(
            [maps([("town", "?x", "?y")], store), first_map([("town", "?x", "?y"), ("mayor", "?y", "?z")], store)],
            [[{'?x': 'ann', '?y': 'rome'}, {'?x': 'bob', '?y': 'oslo'}], {'?x': 'bob', '?y': 'oslo', '?z': 'eve'}])
        self.check(
            [count_maps([("town", "?x", "rome")], store, {"?x": "bob"}),
             maps([("mayor", "oslo", "eve")], store, {"?x": "ann"}), maps([], store)],
            [0, [{'?x': 'ann'}], [{}]])
        self.check(
            [map_between([("a", "?x", "?y")], [("a", "?z", "?z")]),
             map_between([("a", "?x", "b")], [("a", "?z", "?z")]),
             agree({"?x": "a"}, {"?x": "a", "?y": "b"})],
            [{'?x': '?z', '?y': '?z'}, None, True])
        self.check(
            [joined({"?x": "a"}, {"?w": "b"}), is_above({"?x": "a"}, {}),
             only_keys({"?x": "a", "?y": "b"}, ["?y", "?z"]), in_order([{"?x": "b"}, {"?w": "c"}, {"?x": "b"}])],
            [{'?w': 'b', '?x': 'a'}, True, {'?y': 'b'}, [{'?w': 'c'}, {'?x': 'b'}]])

    def test_rules(self):
        one_town = Key("town", 2, [0])
        known = Rule([("mayor", "?t", "?m")], ("person", "?m"))
        store = Store([("mayor", "oslo", "eve"), ("town", "ann", "oslo"), ("town", "ann", "rome")])
        self.check(
            [broken(store, [one_town, known]), broken(store, [known]), keeps(store, [])],
            [(0, [('town', 'ann', 'oslo'), ('town', 'ann', 'rome')]), (0, [('mayor', 'oslo', 'eve')]), True])
        self.check(
            closed([("town", "?x", "?y"), ("town", "?x", "rome"), ("mayor", "?y", "?z")], [one_town, known]),
            ([('mayor', 'rome', '?z'), ('person', '?z'), ('town', '?x', 'rome')],
             {'?x': '?x', '?y': 'rome', '?z': '?z'}))
        store, names = store_of([("mayor", "rome", "?z"), ("town", "?x", "new1")])
        self.check(
            [store.facts, names],
            [(('mayor', 'rome', 'new3'), ('town', 'new2', 'new1')), {'?x': 'new2', '?z': 'new3'}])
        with self.assertRaises(Clash):
            closed([("town", "?x", "oslo"), ("town", "?x", "rome")], [one_town])

    def test_questions(self):
        question = Question([(None, [("a", "?x")]), (0, [("b", "?x", "?y"), ("a", "?x")]), (1, [("c", "?y", "?z")]),
                             (0, [("d", "?x", "?u")])])
        self.check(
            [question.parts()[2], question.next_nodes((0, 1)), question.new_variables(1),
             question.part_with(["?y", "?x", "?u"])],
            [(0, 1, 2), [2, 3], ['?y'], (0, 1, 3)])
        self.check(question.text().split("\n"), ['a(?x)', ' a(?x) b(?x,?y)', '  c(?y,?z)', ' d(?x,?u)'])
        self.check(question.renamed({"?x": "?z", "?z": "?x"}).variables((0, 1)), ['?y', '?z'])
        with self.assertRaises(Loose) as caught:
            Question([(None, [("a", "?x")]), (0, [("b", "?y")]), (1, [("c", "?x", "?z")])])
        self.assertEqual(caught.exception.variable, '?x')

    def test_answers(self):
        question = Question([(None, [("person", "?x")]), (0, [("town", "?x", "?y")]), (1, [("mayor", "?y", "?z")])])
        store = Store([("person", "ann"), ("person", "bob"), ("town", "bob", "oslo"), ("town", "eve", "rome")])
        self.check(answers([question], store), [{'?x': 'ann'}, {'?x': 'bob', '?y': 'oslo'}])
        self.check(
            [by_part(question, store)[(0, 1)], tellers([question], store, {"?x": "ann"}),
             is_answer([question], store, {"?x": "bob"})],
            [[{'?x': 'bob', '?y': 'oslo'}], [(0, (0,))], False])
        later = store + Store([("mayor", "oslo", "eve")])
        self.check(
            [lost([question], store, later), lost([question], later, store)],
            [[], [{'?x': 'bob', '?y': 'oslo', '?z': 'eve'}]])
        self.check(
            [changes([question], store, later)[0], fullest(question, later, {"?x": "bob"})],
            [[{'?x': 'bob', '?y': 'oslo'}], {'?x': 'bob', '?y': 'oslo', '?z': 'eve'}])
        with self.assertRaises(NoPart) as caught:
            fullest(Question([(None, [("person", "?x")])]), Store([("person", "ann")]), {"?x": "eve"})
        self.assertEqual(caught.exception.known, {'?x': 'eve'})

    def test_forms(self):
        form = (Form.lot([("a", "?x")]) | Form.lot([("b", "?x")])).opt(Form.read("({c(?x,?y)} opt {d(?y,?z)})"))
        store = Store([("a", "m"), ("b", "n"), ("c", "n", "k")])
        self.check(
            [form.text(), meaning(form, store), len(arms(form)), loose(form)],
            ['(({a(?x)} | {b(?x)}) opt ({c(?x,?y)} opt {d(?y,?z)}))', [{'?x': 'm'}, {'?x': 'n', '?y': 'k'}], 2, None])
        wood = wood_of(form)
        self.check(
            [answers(wood, store) == meaning(form, store), meaning(form_of(wood), store) == meaning(form, store),
             form.variables()],
            [True, True, ['?x', '?y', '?z']])
        odd = Form.read("(({a(?x)} opt {b(?y)}) & {c(?x,?y)})")
        few = Store([("a", "m"), ("c", "m", "k")])
        self.check(
            [loose(odd), meaning(odd, few), shrunk(odd, few, few + Store([("b", "n")]))],
            ['?y', [{'?x': 'm', '?y': 'k'}], [{'?x': 'm', '?y': 'k'}]])
        with self.assertRaises(OrBelow):
            wood_of(Form.read("({a(?x)} opt ({b(?x)} | {c(?x,?y)}))"))

    def test_games(self):
        towns = Question([(None, [("person", "?x")]), (0, [("town", "?x", "?y")])])
        people = Question([(None, [("person", "?x")])])
        lot = [("person", "?a")]
        self.check(
            [candidates(lot, [people, towns], {"?x": "?a"}), goes_on(lot, [towns], {"?x": "?a"}, 0, (0,)),
             spoil(lot, [people], {"?x": "?a"})],
            [[(0, (0,)), (1, (0,))], False, ('lost', ('stuck', 0, (0,)))])
        self.check(spoil(lot, [towns], {"?x": "?a"}),
                   ('won', [('person', '?a'), ('town', '?a', '?new1')], {'?x': '?a'}))
        paper = spoil(lot, [towns], {"?x": "?a"}, goals=[[("town", "?x", "?z")]])[1]
        self.check(paper, ('put', 0, (0,), [(1, ('had', 0, {'?x': '?a', '?z': '?new1'}))]))
        self.check(
            [is_lost(paper, lot, [towns], {"?x": "?a"}, goals=[[("town", "?x", "?z")]]),
             is_lost(paper, lot, [towns], {"?x": "?a"})],
            [True, False])

    def test_containment(self):
        people = Question([(None, [("person", "?x")])])
        towns = Question([(None, [("person", "?x")]), (0, [("town", "?x", "?y")])])
        store, answer = parting([people], [towns])
        self.check(
            [contained([people], [towns]), store.facts, answer, parts_them(store, answer, [people], [towns])],
            [False, (('person', 'new2'), ('town', 'new2', 'new1')), {'?x': 'new2'}, True])
        self.check(
            [contained([people], [towns, people]), papers([people], [towns, people])],
            [True, {(0, (0,)): ('put', 0, (0,), [(1, ('stuck', 1, (0,)))])}])
        self.check(
            [are_papers(papers([people], [towns, people]), [people], [towns, people]),
             are_papers({}, [people], [towns, people])],
            [True, False])
        homeless = Rule([("person", "?p")], ("town", "?p", "rome"))
        self.check(
            [never_answers([towns], rules=[homeless]), always_alone([people, towns]), shared([people, towns])[1:],
             always_alone([people, towns], rules=[homeless])],
            [[(0, (0,))], False, ({'?x': 'new1'}, 0, 1), True])

    def test_thinning(self):
        towns = Question.read("person(?x)\n person(?x) town(?x,?y)")
        self.check(strikes([towns]), [('tree', 0), ('node', 0, 1), ('pattern', 0, 0, ('person', '?x')),
                                      ('pattern', 0, 1, ('person', '?x'))])
        self.check(
            [needless([towns]), thinned([towns])[0][0].text(), unlike([towns], struck([towns], ("node", 0, 1)))[0]],
            [[('pattern', 0, 1, ('person', '?x'))], 'person(?x)\n town(?x,?y)', 0])
        people = Question.read("person(?x)")
        self.check(
            [alike([towns, people], [people]), alike([towns], thinned([towns])[0]), needless([people, people])],
            [False, True, [('tree', 0), ('tree', 1)]])
        homeless = Rule([("person", "?p")], ("town", "?p", "rome"))
        self.check(
            [always_had(towns, rules=[homeless]), tightened(towns, rules=[homeless]).text(), always_had(towns)],
            [[1], 'person(?x) town(?x,?y)', []])
        with self.assertRaises(BadStrike) as caught:
            struck([Question.read("person(?x)")], ("node", 0, 0))
        self.assertEqual(caught.exception.value, ('node', 0, 0))

    def test_shown(self):
        towns = Question([(None, [("town", "?x", "?y")]), (0, [("mayor", "?y", "?z")])])
        people = Question([(None, [("town", "?x", "?w")])])
        store = Store([("town", "ann", "rome"), ("town", "ann", "oslo"), ("mayor", "oslo", "eve")])
        self.check(
            [shown_answers([towns], store, ["?x"]), shown_answers([towns], store, ["?x", "?z"])],
            [[{'?x': 'ann'}], [{'?x': 'ann'}, {'?x': 'ann', '?z': 'eve'}]])
        self.check(
            [part_of([towns], [people], ["?x"]), part_of([towns], [people], ["?x", "?z"]),
             part_of([people], [towns], ["?x", "?z"])],
            [True, False, True])
        self.check(
            ways([towns], [people], ["?x"]),
            {(0, (0,)): ('way', 0, (0,), {'?w': '?y', '?x': '?x'}),
             (0, (0, 1)): ('way', 0, (0,), {'?w': '?y', '?x': '?x'})})
        store, answer = unmet([towns], [people], ["?x", "?z"])
        self.check(
            [store.facts, answer, is_unmet(store, answer, [towns], [people], ["?x", "?z"]),
             is_unmet(store, answer, [towns], [people], ["?x"])],
            [(('mayor', 'new2', 'new3'), ('town', 'new1', 'new2')), {'?x': 'new1', '?y': 'new2', '?z': 'new3'}, True,
             False])
        self.check(
            [are_ways({}, [towns], [people], ["?x"]), needless_nodes([towns], ["?x", "?y"]),
             needless_nodes([towns], ["?z"])],
            [False, [(0, 1)], []])

    def test_later(self):
        towns = Question.read("person(?x)\n town(?x,?y)")
        store = Store([("person", "ann"), ("person", "bob"), ("town", "bob", "oslo")])
        self.check(
            [final_answers([towns], store), undoing([towns], store, {"?x": "ann"}),
             undoes([("town", "ann", "rome")], [towns], store, {"?x": "ann"})],
            [[{'?x': 'bob', '?y': 'oslo'}], [('town', 'ann', 'new1')], True])
        people = Question.read("person(?x)")
        paper = final_paper([towns, people], store, {"?x": "ann"})
        self.check(
            [paper, is_final_paper(paper, [towns, people], store, {"?x": "ann"}),
             is_final([towns], store, {"?x": "ann"})],
            [('put', 0, (0,), [(1, ('stuck', 1, (0,)))]), True, False])
        self.check(
            [always_final([people]), always_final([towns]), unsettled([towns])[1:]],
            [True, False, ({'?x': 'new1'}, [('town', 'new1', 'new2')])])
        self.check(always_final([towns], rules=[Rule([("person", "?p")], ("town", "?p", "rome"))]), True)
        with self.assertRaises(NotAnAnswer) as caught:
            is_final([Question.read("person(?x)")], Store([]), {"?x": "ann"})
        self.assertEqual(caught.exception.known, {'?x': 'ann'})

    def test_reasons(self):
        towns = Question.read("person(?x)\n mayor(?y,?z) town(?x,?y)")
        store = Store([("mayor", "oslo", "eve"), ("person", "ann"), ("person", "bob"), ("town", "ann", "rome"),
                       ("town", "bob", "oslo")])
        self.check(
            [support([towns], store, {"?x": "ann"}), why_not([towns], store, {"?x": "eve"}),
             needed([towns], store, {"?x": "ann"})],
            [[(0, (0,), [('person', 'ann')])], [('lacks', (0,), [('person', 'eve')])], [('person', 'ann')]])
        self.check(why_not([towns], store, {"?x": "bob"}),
                   [('fuller', (0,), 1, {'?x': 'bob', '?y': 'oslo', '?z': 'eve'})])
        self.check(
            [in_the_way([towns], store, {"?x": "bob"}), len(clearing([towns], store, {"?x": "bob"})),
             clearing([towns], store, {"?x": "eve"})],
            [[('mayor', 'oslo', 'eve'), ('town', 'bob', 'oslo')], 1, None])
        found, facts = lacking(towns, store, {"?x": "ann"}, 1)
        self.check([len(facts), lacking(towns, store, {"?x": "bob"}, 1)[1]], [1, []])

    def test_unknowns(self):
        towns = Question([(None, [("town", "?x", "?y")]), (0, [("mayor", "?y", "?z")])])
        lot = [("town", "ann", "?u"), ("mayor", "?u", "eve"), ("town", "bob", "oslo")]
        self.check(sure_maps([towns], lot), [{'?x': 'ann', '?z': 'eve'}, {'?x': 'bob', '?y': 'oslo'}])
        self.check(sure_maps([towns], [*lot, ("town", "ann", "rome")], rules=[Key("town", 2, [0])]),
                   [{'?x': 'ann', '?y': 'rome', '?z': 'eve'}, {'?x': 'bob', '?y': 'oslo'}])
        self.check(
            [is_sure({"?z": "eve"}, [towns], lot), why_sure({"?z": "eve"}, [towns], lot),
             is_why((0, (0,), {"?x": "ann", "?y": "?u"}), {"?x": "ann"}, [towns], lot)],
            [True, (0, (0, 1), {'?x': 'ann', '?y': '?u', '?z': 'eve'}), True])
        self.check(
            [against({"?x": "ann", "?y": "oslo"}, [towns], lot).facts, is_possible(Store([("town", "bob", "oslo")]), lot),
             some_store([("a", "?b")]).facts],
            [(('mayor', 'new1', 'eve'), ('town', 'ann', 'new1'), ('town', 'bob', 'oslo')), False, (('a', 'new1'),)])
        with self.assertRaises(Clash):
            sure_maps([towns], [("town", "ann", "rome"), ("town", "ann", "oslo")], rules=[Key("town", 2, [0])])

    def test_desk(self):
        desk = Desk([("person", "ann")], rules=[Key("town", 2, [0])])
        desk.name("towns", [Question.read("person(?x)\n town(?x,?y)")])
        desk.put([("town", "ann", "rome"), ("person", "bob")])
        self.check(
            [desk.answers("towns"), desk.news("towns", 1)[0],
             desk.supposed([("town", "ann", "rome")], [("town", "ann", "oslo")], "towns")[0]],
            [[{'?x': 'ann', '?y': 'rome'}, {'?x': 'bob'}], [{'?x': 'ann'}], {'?x': 'ann', '?y': 'oslo'}])
        desk.undo()
        self.check(
            [len(desk), desk.names, desk.text().split("\n"), read_desk(desk.text()).answers("towns")],
            [1, ['towns'], ['person(ann)', '= towns', 'person(?x)', ' town(?x,?y)', '.'], [{'?x': 'ann'}]])
        desk = Desk([("town", "ann", "rome")], rules=[Key("town", 2, [0])])
        with self.assertRaises(Broken) as caught:
            desk.put([("town", "ann", "oslo")])
        self.assertEqual((caught.exception.index, caught.exception.shown),
                         (0, [('town', 'ann', 'oslo'), ('town', 'ann', 'rome')]))

    def test_rehearsed(self):
        desk = Desk([("person", "ann")])
        desk.name("all", [Question.read("person(?x)")])
        self.check(
            [len(told) for told in rehearsed(desk, [([], [("person", "bob")]), [([("person", "ann")], [])],
                                                    ([], [("person", "eve")])], "all")],
            [2, 1, 3])
        self.check([rehearsed(desk, [[([("person", "ann")], [])]], "all"), desk.answers("all")],
                   [[[[]]], [{'?x': 'ann'}]])

    def test_complete(self):
        towns = Question([(None, [("person", "?x")]), (0, [("town", "?x", "?y"), ("mayor", "?y", "?z")])])
        store = Store([("mayor", "oslo", "eve"), ("person", "ann")])
        self.check(
            [is_settled([towns], store, {"?x": "ann"}), is_settled([towns], store, {"?x": "ann"}, complete=["town"]),
             tables_of([towns])],
            [False, True, ['mayor', 'person', 'town']])
        self.check(
            [unsettling([towns], store, {"?x": "ann"}, complete=["mayor"]), enough_tables([towns], store, {"?x": "ann"})],
            [[('town', 'ann', 'oslo')], [['town']]])
        self.check(
            [unsettles([("town", "ann", "rome")], [towns], store, {"?x": "ann"}),
             settled_answers([towns], store, complete=["town"])],
            [False, [{'?x': 'ann'}]])
        bare = Question([(None, [("person", "?x")]), (0, [("age", "?x", "?y")])])
        paper = settled_paper([bare], Store([("person", "ann")]), {"?x": "ann"}, complete=["age"])
        self.check(paper, ('put', 0, (0,), [(1, {'?y': None}, ('barred',)), (1, {'?y': 'ann'}, ('barred',))]))
        self.check(
            [is_settled_paper(paper, [bare], Store([("person", "ann")]), {"?x": "ann"}, complete=["age"]),
             is_later(store, Store(), complete=["mayor"])],
            [True, False])


if __name__ == "__main__":
    unittest.main()
