import itertools
import unittest

from fullestrows.containment import (
    always_alone, are_papers, contained, never_answers, papers, parting, parts_them, shared,
)
from fullestrows.facts import Store
from fullestrows.games import is_lost
from fullestrows.questions import Question
from fullestrows.rules import Key, Rule
from small import STORES, Answered, canonical, changed_wood, odd_values, slow_keeps, some_rules, some_wood
from test_games import Turn
from values import ANY_VALUES, dice, given, slow_answers, slow_by_part, slow_lot, slow_maps, slow_parts

PEOPLE = Question.read("person(?x)")
TOWNS = Question.read("person(?x)\n town(?x,?y)")
DEEP = Question.read("person(?x)\n town(?x,?y)\n  mayor(?y,?z)")
EMPTY = Question.read("-")
HOMELESS = Rule([("person", "?p")], ("town", "?p", "rome"))
ONE_TOWN = Key("town", 2, [0])
# By these rules nobody can be a person.
CLASH = [Rule([("person", "?p")], ("a", "k")), Rule([("person", "?p")], ("a", "m")), Key("a", 1, [])]


def plays(wood, others, rules):
    """For each tuple (tree, part) the play of point 80, gone through to the letter."""
    found = {}
    for tree, question in enumerate(wood):
        nodes = question.nodes
        for part in slow_parts(nodes):
            lot = slow_lot(nodes, part)
            known = {term: term for pattern in lot for term in pattern[1:] if term[0] == "?"}
            goals = [nodes[node][1] for node in range(1, len(nodes)) if node not in part and nodes[node][0] in part]
            found[tree, part] = Turn(lot, others, dict(sorted(known.items())), goals, rules)
    return found


def right_papers(turn):
    """All papers for a play."""
    if turn.clash:
        return [("clash",)]
    found = [("had", at, known) for at in turn.had for known in slow_maps(turn.goals[at], turn.lot, turn.known)]
    if turn.waiting:
        tree, part = turn.waiting[0]
        choices = turn.choices()
        several = itertools.product(*[right_papers(lower) for _, lower in choices])
        rows = [[(node, paper) for (node, _), paper in zip(choices, one)] for one in several]
        found += [("put", tree, part, one) for one in rows] if choices else [("stuck", tree, part)]
    return found


def some_case(numbers, nodes=3):
    """Two woods that have much in common, and rules."""
    wood = some_wood(numbers, nodes=nodes)
    others = changed_wood(numbers, wood) if numbers.random() < 0.8 else some_wood(numbers, nodes=nodes)
    return wood, others, some_rules(numbers)


class Contained(unittest.TestCase):
    """Point 80."""

    def test_contained(self):
        for wood, others, wanted in [
                ([PEOPLE], [PEOPLE], True), ([PEOPLE], [TOWNS], False), ([TOWNS], [PEOPLE], False),
                ([PEOPLE], [TOWNS, PEOPLE], True), ([TOWNS, PEOPLE], [TOWNS, PEOPLE, DEEP], True),
                ([TOWNS], [DEEP], False), ([TOWNS, DEEP], [DEEP], False), ([DEEP], [TOWNS, DEEP], True)]:
            self.assertIs(contained(wood, others), wanted)
            self.assertIs(contained(tuple(wood), others=tuple(others), rules=[]), wanted)

    def test_contained_in_two_questions_together(self):
        # Who has a town, has it in the first question; who has none, is told by the second one alone.
        both = Question.read("person(?x) town(?x,?y)")
        told = Question.read("person(?x)\n town(?x,?y)\n town(?x,?z)")
        self.assertIs(contained([both], [TOWNS]), True)
        self.assertIs(contained([TOWNS], [both]), False)
        self.assertIs(contained([TOWNS], [both, PEOPLE]), True)
        self.assertIs(contained([PEOPLE, both], [TOWNS]), False)
        self.assertIs(contained([told], [TOWNS]), False)

    def test_other_names_of_variables(self):
        self.assertIs(contained([PEOPLE], [PEOPLE.renamed({"?x": "?y"})]), False)
        self.assertIs(contained([TOWNS], [Question.read("person(?x)\n town(?x,?z)")]), False)
        self.assertIs(contained([Question.read("b(?x,?y)")], [Question.read("b(?y,?x)")]), False)

    def test_variables_of_both_are_kept_apart(self):
        # A next node of the other wood may have a variable of the part, which means something else there.
        one = Question.read("a(?x) b(?x,?y)")
        self.assertIs(contained([one], [Question.read("a(?x)\n b(?x,?y)")]), True)
        self.assertIs(contained([Question.read("a(?x)")], [Question.read("a(?x)\n a(?y)")]), False)
        self.assertIs(contained([Question.read("a(?x)\n b(?x,?y)")], [Question.read("a(?x)\n b(?x,?z)"), one]), True)

    def test_wood_without_questions(self):
        self.assertIs(contained([], []), True)
        self.assertIs(contained([], [PEOPLE]), True)
        self.assertIs(contained([PEOPLE], []), False)
        self.assertIs(contained([EMPTY], []), False)
        self.assertIs(contained([PEOPLE], [], rules=CLASH), True)
        self.assertIs(contained([EMPTY], [], rules=CLASH), False)
        self.assertIs(contained([EMPTY, PEOPLE], [EMPTY], rules=CLASH), True)

    def test_first_node_without_patterns(self):
        maybe = Question.read("-\n person(?x)")
        self.assertIs(contained([EMPTY], [EMPTY]), True)
        self.assertIs(contained([EMPTY], [maybe]), False)
        self.assertIs(contained([maybe], [EMPTY]), False)
        self.assertIs(contained([maybe], [EMPTY, PEOPLE]), True)
        self.assertIs(contained([PEOPLE], [maybe]), True)
        self.assertIs(contained([PEOPLE, EMPTY], [maybe, EMPTY]), True)
        self.assertIs(contained([maybe], [EMPTY], rules=CLASH), True)

    def test_a_question_twice(self):
        self.assertIs(contained([TOWNS, TOWNS], [TOWNS]), True)
        self.assertIs(contained([TOWNS], [TOWNS, TOWNS]), True)
        self.assertIs(contained([TOWNS, TOWNS], [PEOPLE, PEOPLE]), False)

    def test_rules(self):
        both = Question.read("person(?x) town(?x,?y)")
        self.assertIs(contained([TOWNS], [both]), False)
        self.assertIs(contained([TOWNS], [both], rules=[HOMELESS]), True)
        self.assertIs(contained([both], [Question.read("person(?x) town(?x,?y) town(?x,rome)")], rules=[HOMELESS]), True)
        two = Question.read("person(?x)\n town(?x,?y) town(?x,?z)")
        same = Question.read("person(?x)\n last(?y,?z) town(?x,?y) town(?x,?z)")
        self.assertIs(contained([two], [same]), False)
        last = Rule([("town", "?p", "?q")], ("last", "?q", "?q"))
        self.assertIs(contained([two], [same], rules=[last]), False)
        self.assertIs(contained([two], [same], rules=[last, ONE_TOWN]), True)

    def test_clash_in_a_part(self):
        oslo = Question.read("person(?x)\n age(?x,?z) town(?x,oslo)")
        self.assertIs(contained([oslo], [PEOPLE], rules=[HOMELESS]), False)
        self.assertIs(contained([oslo], [PEOPLE], rules=[HOMELESS, ONE_TOWN]), True)
        self.assertIs(contained([PEOPLE], [oslo], rules=[HOMELESS, ONE_TOWN]), True)

    def test_over_all_stores(self):
        numbers = dice(80)
        answered = Answered()
        seen = {True: 0, False: 0}
        for _ in range(250):
            wood, others, rules = some_case(numbers)
            told = contained(wood, others, rules=rules)
            seen[told] += 1
            if told:
                for store in STORES:
                    if slow_keeps(store.facts, rules):
                        more = answered.of(others, store)
                        self.assertTrue(all(known in more for known in answered.of(wood, store)))
        self.assertGreater(min(seen.values()), 60)

    def test_main_statement(self):
        numbers = dice(81)
        seen = {True: 0, False: 0}
        for _ in range(400):
            wood, others, rules = some_case(numbers)
            turns = plays(wood, others, rules)
            wanted = not any(turn.wins() for turn in turns.values())
            self.assertIs(contained(wood, others, rules=rules), wanted)
            seen[wanted] += 1
        self.assertGreater(min(seen.values()), 100)

    def test_at_the_limits(self):
        # Four questions of six nodes with 16 patterns each, the nodes in another order in each of them.
        wood = [star(turn) for turn in range(4)]
        rules = [Key("e", 2, [0]), Rule([("e", "?a", "?b"), ("f", "?b", "?c")], ("h", "?a", "?c")),
                 Rule([("h", "?a", "?b")], ("h", "?b", "?a")),
                 Rule([("h", "?a", "?b"), ("h", "?b", "?c"), ("h", "?c", "?d"), ("h", "?d", "?e")], ("h", "?a", "?e"))]
        for some in ([], rules):
            self.assertIs(contained(wood[:1], wood[1:], rules=some), True)
            self.assertIs(are_papers(papers(wood, wood[2:], rules=some), wood, wood[2:], rules=some), True)
            self.assertIs(contained(wood, [Question.read("p(?x)")], rules=some), False)


def star(turn):
    """A question of six nodes with 16 patterns."""
    nodes = [(None, [("p", "?x")])]
    for at in range(5):
        one, two = f"?y{(at + turn) % 5}", f"?z{(at + turn) % 5}"
        nodes.append((0, [("e", "?x", one), ("f", one, two), ("g", two, "?x")]))
    return Question(nodes)


class Papers(unittest.TestCase):
    """Point 81."""

    def test_papers(self):
        self.assertEqual(papers([PEOPLE], [TOWNS, PEOPLE]), {(0, (0,)): ("put", 0, (0,), [(1, ("stuck", 1, (0,)))])})
        self.assertIsNone(papers([PEOPLE], [TOWNS]))
        self.assertEqual(papers([], [PEOPLE]), {})
        self.assertEqual(papers([], []), {})
        self.assertIsNone(papers([PEOPLE], []))
        self.assertEqual(papers([PEOPLE], [], rules=CLASH), {(0, (0,)): ("clash",)})
        self.assertEqual(papers([PEOPLE, PEOPLE], [PEOPLE]),
                         {(0, (0,)): ("stuck", 0, (0,)), (1, (0,)): ("stuck", 0, (0,))})
        self.assertEqual(papers([EMPTY], [EMPTY]), {(0, (0,)): ("stuck", 0, (0,))})

    def test_keys_are_ascending(self):
        wide = Question.read("person(?x)\n town(?x,?y)\n  mayor(?y,?z)\n age(?x,?w)")
        found = papers([wide, PEOPLE], [PEOPLE, wide])
        self.assertEqual(list(found), sorted([(0, part) for part in wide.parts()] + [(1, (0,))]))

    def test_goals_that_are_had(self):
        self.assertEqual(papers([TOWNS], [TOWNS]), {
            (0, (0,)): ("put", 0, (0,), [(1, ("had", 0, {"?x": "?x", "?y": "?new1"}))]),
            (0, (0, 1)): ("stuck", 0, (0, 1))})
        self.assertEqual(papers([TOWNS], [], rules=CLASH), {(0, (0,)): ("clash",), (0, (0, 1)): ("clash",)})

    def test_order_of_keys(self):
        found = papers([TOWNS, PEOPLE], [PEOPLE, TOWNS])
        turned = dict(reversed(list(found.items())))
        self.assertIs(are_papers(turned, [TOWNS, PEOPLE], [PEOPLE, TOWNS]), True)

    def test_not_the_papers(self):
        good = papers([TOWNS, PEOPLE], [PEOPLE, TOWNS])
        self.assertIs(are_papers(good, [TOWNS, PEOPLE], [PEOPLE, TOWNS]), True)
        self.assertIs(are_papers(good, [TOWNS, PEOPLE], [TOWNS, PEOPLE]), False)
        self.assertIs(are_papers(good, [TOWNS], [PEOPLE, TOWNS]), False)
        self.assertIs(are_papers({}, [TOWNS], [TOWNS]), False)
        self.assertIs(are_papers({}, [], [TOWNS]), True)
        self.assertIs(are_papers([], [], [TOWNS]), False)
        self.assertIs(are_papers(None, [], []), False)
        self.assertIs(are_papers({(0, (0,)): ("clash",)}, [PEOPLE], [], rules=CLASH), True)
        self.assertIs(are_papers({(0, (0,)): ("clash",)}, [PEOPLE], []), False)
        for key in [(False, (0,)), (0, (False,)), "0", 0, None, (0,), (0, (0,), 0), (1, (0,)), (0, 0), (0, "0"),
                    ("0", (0,)), (0, ()), (), False]:
            self.assertIs(are_papers({key: ("clash",)}, [PEOPLE], [], rules=CLASH), False)

    def test_no_papers_where_it_is_not_contained(self):
        for value in [{(0, (0,)): paper} for paper in [("clash",), ("stuck", 0, (0,)), ("had", 0, {}), None]]:
            self.assertIs(are_papers(value, [PEOPLE], [TOWNS]), False)

    def test_any_value(self):
        good = papers([TOWNS], [PEOPLE, TOWNS])
        right = {key: [canonical(paper) for paper in right_papers(turn)]
                 for key, turn in plays([TOWNS], [PEOPLE, TOWNS], []).items()}
        several = 0
        for value in odd_values(good):
            wanted = (isinstance(value, dict) and sorted(map(repr, value)) == sorted(map(repr, right))
                      and all(canonical(value[key]) in right[key] for key in right))
            several += 1
            self.assertIs(are_papers(value, [TOWNS], [PEOPLE, TOWNS]), wanted, value)
        self.assertGreater(several, 150)
        for value in ANY_VALUES:
            self.assertIs(are_papers({(0, (0,)): value}, [PEOPLE], [PEOPLE]), False)

    def test_by_definition(self):
        numbers = dice(82)
        seen = {None: 0, True: 0, False: 0}
        while min(seen.values()) < 60:
            wood, others, rules = some_case(numbers)
            found = papers(wood, others, rules=rules)
            turns = plays(wood, others, rules)
            if found is None:
                seen[None] += 1
                self.assertTrue(any(turn.wins() for turn in turns.values()))
                continue
            self.assertEqual(list(found), sorted(turns))
            self.assertTrue(all(turns[key].proves(found[key]) for key in found))
            self.assertIs(are_papers(found, wood, others, rules=rules), True)
            if not found:
                continue
            # Any other right papers do as well, and a wrong one does not.
            kinds = {key: right_papers(turn)[:50] for key, turn in turns.items()}
            chosen = {key: numbers.choice(kinds[key]) for key in kinds}
            self.assertIs(are_papers(chosen, wood, others, rules=rules), True)
            seen[True] += 1
            key = numbers.choice(sorted(found))
            for value in odd_values(found[key])[:40]:
                wanted = canonical(value) in [canonical(paper) for paper in right_papers(turns[key])]
                self.assertIs(are_papers({**found, key: value}, wood, others, rules=rules), wanted)
                seen[False] += not wanted

    def test_each_paper_is_one_for_its_play(self):
        found = papers([DEEP], [TOWNS, DEEP])
        for (_, part), paper in found.items():
            known = {name: name for name in DEEP.variables(part)}
            goals = [DEEP.nodes[node][1] for node in DEEP.next_nodes(part)]
            self.assertIs(is_lost(paper, DEEP.patterns(part), [TOWNS, DEEP], known, goals=goals), True)


class Parting(unittest.TestCase):
    """Point 82."""

    def test_parting(self):
        store, answer = parting([PEOPLE], [TOWNS])
        self.assertEqual((store.facts, answer), ((("person", "new2"), ("town", "new2", "new1")), {"?x": "new2"}))
        self.assertEqual(parting([PEOPLE], []), (Store([("person", "new1")]), {"?x": "new1"}))
        self.assertEqual(parting([EMPTY], []), (Store(), {}))
        self.assertIsNone(parting([], []))
        self.assertIsNone(parting([PEOPLE], [PEOPLE]))
        self.assertIsNone(parting([PEOPLE], [], rules=CLASH))

    def test_sides_exchanged(self):
        self.assertIsNone(parting([PEOPLE], [PEOPLE, TOWNS]))
        store, answer = parting([PEOPLE, TOWNS], [PEOPLE])
        self.assertIs(parts_them(store, answer, [PEOPLE, TOWNS], [PEOPLE]), True)
        self.assertIs(parts_them(store, answer, [PEOPLE], [PEOPLE, TOWNS]), False)

    def test_by_a_rule(self):
        store, answer = parting([PEOPLE], [TOWNS], rules=[Rule([("town", "?p", "?q")], ("person", "?q"))])
        self.assertEqual((store.facts, answer),
                         ((("person", "new1"), ("person", "new2"), ("town", "new2", "new1")), {"?x": "new2"}))
        self.assertIsNone(parting([TOWNS], [Question.read("person(?x) town(?x,?y)")], rules=[HOMELESS]))

    def test_constants_that_the_package_made(self):
        # Such constants may stand in what is passed, so they are not taken for unknown ones.
        made = Question.read("person(?x) town(?x,new1)")
        store, answer = parting([Question.read("person(?x) town(?x,?y)")], [Question.read("person(?x) town(?x,?y) u()"),
                                                                            made])
        self.assertIs(parts_them(store, answer, [Question.read("person(?x) town(?x,?y)")], [made]), True)
        one, other = Question.read("person(?x)"), Question.read("person(?x) town(new1,rome)")
        store, answer = parting([one], [other], rules=[Rule([("person", "new1")], ("town", "new1", "rome"))])
        self.assertEqual(answer, {"?x": "new2"})

    def test_parts_them(self):
        store = Store([("person", "ann"), ("town", "ann", "rome")])
        self.assertIs(parts_them(store, {"?x": "ann"}, [PEOPLE], [TOWNS]), True)
        self.assertIs(parts_them(store, {"?x": "ann"}, [PEOPLE], [TOWNS, PEOPLE]), False)
        self.assertIs(parts_them(store, {"?x": "bob"}, [PEOPLE], [TOWNS]), False)
        self.assertIs(parts_them(store, {}, [PEOPLE], [TOWNS]), False)
        self.assertIs(parts_them(store, {"?y": "rome", "?x": "ann"}, [TOWNS], [PEOPLE]), True)
        self.assertIs(parts_them(store, {"?x": "ann"}, [PEOPLE], [TOWNS], rules=[HOMELESS]), True)
        self.assertIs(parts_them(Store([("person", "ann"), ("town", "ann", "oslo")]), {"?x": "ann"}, [PEOPLE], [TOWNS],
                                 rules=[HOMELESS]), False)

    def test_by_definition(self):
        numbers = dice(83)
        seen = {True: 0, False: 0}
        while min(seen.values()) < 150:
            wood, others, rules = some_case(numbers)
            found = parting(wood, others, rules=rules)
            seen[found is None] += 1
            self.assertIs(found is None, contained(wood, others, rules=rules))
            if found is not None:
                store, answer = found
                self.assertTrue(slow_keeps(store.facts, rules))
                self.assertIn(answer, slow_answers(wood, store.facts))
                self.assertNotIn(answer, slow_answers(others, store.facts))
                self.assertEqual(list(answer), sorted(answer))
                self.assertIs(parts_them(store, answer, wood, others, rules=rules), True)

    def test_parts_them_by_definition(self):
        numbers = dice(84)
        seen = {True: 0, False: 0}
        for _ in range(600):
            wood, others, rules = some_case(numbers, nodes=2)
            store = numbers.choice(STORES)
            for answer in slow_answers([*wood, *others], store.facts)[:6]:
                wanted = (slow_keeps(store.facts, rules) and answer in slow_answers(wood, store.facts)
                          and answer not in slow_answers(others, store.facts))
                turned = dict(reversed(list(answer.items())))
                self.assertIs(parts_them(store, turned, wood, others, rules=rules), wanted)
                seen[wanted] += 1
        self.assertGreater(min(seen.values()), 60)


class Alone(unittest.TestCase):
    """Point 83."""

    def test_never_answers(self):
        self.assertEqual(never_answers([TOWNS, PEOPLE]), [])
        self.assertEqual(never_answers([TOWNS], rules=[HOMELESS]), [(0, (0,))])
        self.assertEqual(never_answers([PEOPLE, TOWNS], rules=CLASH), [(0, (0,)), (1, (0,)), (1, (0, 1))])
        self.assertEqual(never_answers([]), [])
        self.assertEqual(never_answers([EMPTY], rules=CLASH), [])
        self.assertEqual(never_answers([Question.read("a(?x)\n a(?y)")]), [(0, (0,))])
        wide = Question.read("person(?x)\n age(?x,?z)\n town(?x,?y)")
        self.assertEqual(never_answers([PEOPLE, wide], rules=[HOMELESS]), [(1, (0,)), (1, (0, 1))])

    def test_always_alone(self):
        self.assertIs(always_alone([PEOPLE, TOWNS]), False)
        self.assertIs(always_alone([PEOPLE, TOWNS], rules=[HOMELESS]), True)
        self.assertIs(always_alone([TOWNS]), True)
        self.assertIs(always_alone([]), True)
        self.assertIs(always_alone([TOWNS, TOWNS]), False)
        self.assertIs(always_alone([TOWNS, TOWNS], rules=CLASH), True)
        self.assertIs(always_alone([PEOPLE, PEOPLE.renamed({"?x": "?y"})]), True)
        self.assertIs(always_alone([EMPTY, EMPTY]), False)
        self.assertIs(always_alone([Question.read("a(?x)\n b(?x,?y)"), Question.read("a(?x) b(?x,?z)")]), True)
        self.assertIs(always_alone([Question.read("person(?x) town(?x,rome)"),
                                    Question.read("person(?x) town(?x,oslo)")]), False)
        self.assertIs(always_alone([Question.read("person(?x) town(?x,rome)"),
                                    Question.read("person(?x) town(?x,oslo)")], rules=[ONE_TOWN]), True)

    def test_shared(self):
        self.assertEqual(shared([PEOPLE, TOWNS]), (Store([("person", "new1")]), {"?x": "new1"}, 0, 1))
        self.assertIsNone(shared([PEOPLE, TOWNS], rules=[HOMELESS]))
        self.assertIsNone(shared([PEOPLE]))
        other = PEOPLE.renamed({"?x": "?y"})
        self.assertEqual(shared([other, TOWNS, PEOPLE])[1:], ({"?x": "new1"}, 1, 2))
        self.assertEqual(shared([EMPTY, PEOPLE, EMPTY]), (Store(), {}, 0, 2))
        # Both lots are there, also where neither question asks for the other one's.
        self.assertEqual(shared([Question.read("a(?x)"), Question.read("b(?x,k)")])[0].facts,
                         (("a", "new1"), ("b", "new1", "k")))

    def test_by_definition(self):
        numbers = dice(85)
        answered = Answered()
        seen = {True: 0, False: 0}
        never = 0
        for _ in range(200):
            wood, rules = some_wood(numbers, most=3, nodes=2), some_rules(numbers)
            kept = [store for store in STORES if slow_keeps(store.facts, rules)]
            alone = always_alone(wood, rules=rules)
            found = shared(wood, rules=rules)
            seen[alone] += 1
            self.assertIs(found is None, alone)
            if alone:
                for store in kept:
                    several = [[tuple(known.items()) for known in answered.of([one], store)] for one in wood]
                    self.assertTrue(all(not set(one) & set(other) for one, other in itertools.combinations(several, 2)))
            else:
                store, answer, first, second = found
                self.assertLess(first, second)
                self.assertTrue(slow_keeps(store.facts, rules))
                self.assertIn(answer, slow_answers([wood[first]], store.facts))
                self.assertIn(answer, slow_answers([wood[second]], store.facts))
            listed = never_answers(wood, rules=rules)
            never += len(listed)
            self.assertEqual(listed, sorted(listed))
            for tree, part in listed:
                for store in kept:
                    names = wood[tree].variables(part)
                    self.assertFalse([known for known in answered.of([wood[tree]], store) if list(known) == names])
        self.assertGreater(min(seen.values()), 40)
        self.assertGreater(never, 30)

    def test_never_answers_by_plays(self):
        numbers = dice(86)
        seen = {True: 0, False: 0}
        for _ in range(300):
            wood, rules = some_wood(numbers), some_rules(numbers)
            for (tree, part), turn in plays(wood, [], rules).items():
                ends = turn.wins()
                self.assertIs((tree, part) in never_answers(wood, rules=rules), not ends)
                seen[not ends] += 1
                if ends:
                    # The patterns at the end, each variable as a constant of its own, are a store with such an answer.
                    lot, known = ends[0]
                    names = {term: f"n{term[1:]}" for pattern in lot for term in pattern[1:] if term[0] == "?"}
                    facts = [given(pattern, names) for pattern in lot]
                    self.assertTrue(slow_keeps(facts, rules))
                    self.assertIn({name: names.get(term, term) for name, term in known.items()},
                                  slow_by_part(wood[tree].nodes, facts)[part])
        self.assertGreater(min(seen.values()), 80)


if __name__ == "__main__":
    unittest.main()
