import unittest
from unittest import mock

from fullestrows import views
from fullestrows.answers import answers
from fullestrows.errors import BadNode, Clash
from fullestrows.facts import Store
from fullestrows.questions import Question
from fullestrows.rules import Key, Rule
from fullestrows.shown import (
    are_ways, is_unmet, needless_nodes, part_of, shown_answers, unmet, ways, without_node,
)
from small import (
    STORES, Answered, canonical, changed_wood, odd_values, slow_keeps, some_rules, some_wood,
)
from test_containment import CLASH, EMPTY, HOMELESS, ONE_TOWN, PEOPLE, TOWNS, star
from test_thinning import WIDE, slow_without
from values import (
    ANY_VALUES, dice, names_in, shaped_lot, slow_answers, slow_closed, slow_lot, slow_maps, slow_parts, some_question,
    sorted_maps, told,
)

MAYORS = Question.read("town(?x,?y)\n mayor(?y,?z)")
PLACES = Question.read("town(?x,?w)")
STORE = Store([("town", "ann", "rome"), ("town", "ann", "oslo"), ("mayor", "oslo", "eve")])


def left(several, shown):
    """What is left of maps, in the plainest way."""
    return sorted_maps([{name: term for name, term in known.items() if name in shown} for known in several])


def right_ways(wood, others, shown, rules):
    """For each tuple (tree, part) all ways for it, point 102 to the letter."""
    found = {}
    for tree, question in enumerate(wood):
        for part in slow_parts(question.nodes):
            wanted = slow_lot(question.nodes, part)
            try:
                lot, terms = slow_closed(wanted, rules, dice(0))
            except Clash:
                found[tree, part] = [("clash",)]
                continue
            known = {name: terms[name] for name in names_in(wanted) if name in shown}
            found[tree, part] = [
                ("way", index, more, way)
                for index, other in enumerate(others) for more in slow_parts(other.nodes)
                if set(known) <= set(names_in(slow_lot(other.nodes, more)))
                for way in slow_maps(slow_lot(other.nodes, more), lot, known)]
    return found


def some_case(numbers, nodes=3):
    """Two woods, variables that are shown, and rules."""
    wood = some_wood(numbers, nodes=nodes)
    others = changed_wood(numbers, wood) if numbers.random() < 0.7 else some_wood(numbers, nodes=nodes)
    names = ["?p", "?q", "?r", "?s"]
    return wood, others, numbers.sample(names, numbers.randint(0, 3)), some_rules(numbers)


class ShownAnswers(unittest.TestCase):
    """Point 100."""

    def test_shown_answers(self):
        self.assertEqual(shown_answers([MAYORS], STORE, ["?x"]), [{"?x": "ann"}])
        self.assertEqual(told(shown_answers([MAYORS], STORE, ["?z", "?x"])),
                         [[("?x", "ann")], [("?x", "ann"), ("?z", "eve")]])
        self.assertEqual(shown_answers((MAYORS, PLACES), STORE, ("?w", "?z")),
                         [{}, {"?w": "oslo"}, {"?w": "rome"}, {"?z": "eve"}])

    def test_no_variables_and_all_of_them(self):
        self.assertEqual(shown_answers([MAYORS], STORE, []), [{}])
        self.assertEqual(shown_answers([MAYORS], Store(), []), [])
        self.assertEqual(shown_answers([], STORE, ["?x"]), [])
        self.assertEqual(shown_answers([EMPTY], Store(), ["?x"]), [{}])
        self.assertEqual(shown_answers([MAYORS], STORE, ["?z", "?y", "?x"]), answers([MAYORS], STORE))

    def test_variables_that_are_not_there_and_twice(self):
        self.assertEqual(shown_answers([MAYORS], STORE, ["?w", "?v"]), [{}])
        self.assertEqual(shown_answers([MAYORS], STORE, ["?x", "?w", "?x"]), [{"?x": "ann"}])

    def test_keys_ascend(self):
        question = Question.read("a(?x)\n b(?x,?c)\n  c(?c,?a)\n b(?x,?z)")
        store = Store([("a", "k"), ("b", "k", "m"), ("c", "m", "n")])
        self.assertEqual(told(shown_answers([question], store, ["?z", "?x", "?c", "?a"])),
                         [[("?a", "n"), ("?c", "m"), ("?x", "k"), ("?z", "m")]])

    def test_a_node_that_is_not_shown_counts(self):
        # What is beneath a node is there only with the terms of what is not shown.
        question = Question.read("a(?x)\n b(?x,?y)\n  c(?y,?z)")
        store = Store([("a", "k"), ("b", "k", "m"), ("b", "k", "n"), ("c", "n", "o")])
        self.assertEqual(shown_answers([question], store, ["?x", "?z"]), [{"?x": "k"}, {"?x": "k", "?z": "o"}])
        self.assertEqual(shown_answers([question], store, ["?z"]), [{}, {"?z": "o"}])

    def test_much_that_is_not_shown(self):
        wide = Question([(None, [("e", f"?a{at}") for at in range(6)]),
                         *[(0, [("e", f"?b{at}"), ("e", f"?c{at}")]) for at in range(5)]])
        store = Store([("e", f"v{at}") for at in range(60)])
        self.assertEqual(len(shown_answers([wide] * 4, store, ["?a1"])), 60)
        self.assertEqual(len(shown_answers([wide], store, ["?a1", "?c3"])), 3600)
        self.assertEqual(shown_answers([wide], store, []), [{}])

    def test_by_definition(self):
        numbers = dice(100)
        for few in [1000, 0]:
            with mock.patch.object(views, "MOST_ROWS", few):
                many = 0
                for _ in range(500):
                    wood, _, shown, _ = some_case(numbers)
                    store = Store(shaped_lot(numbers, numbers.randint(0, 12), ["k", "m", "n"]))
                    wanted = left(slow_answers(wood, store.facts), shown)
                    self.assertEqual(told(shown_answers(wood, store, shown)), told(wanted))
                    many += len(wanted)
                self.assertGreater(many, 200)


FAR = "?o8rxdxswtz5q"
# The nodes of questions that have much in common.
TOP = (None, [("nefiml", "?m", "?m"), ("nefiml", "?m", "sj3h")])
FIRST, SECOND = (0, [("n", "?pl"), ("n", "sj3h")]), (0, [("nefiml", "?m", "?o"), ("nefiml", "?o", "?m")])
THIRD, LAST = (0, [("n", FAR), ("nefiml", FAR, "?m")]), (3, [("n", "?u87vnc")])
THIRD_TWICE, THIRD_SELF = [(0, [*THIRD[1], ("nefiml", "?m", term)]) for term in (FAR, "?m")]
MUCH = [Question([TOP, FIRST, SECOND, THIRD, LAST]), Question([TOP, FIRST, SECOND, THIRD]),
        Question([TOP, FIRST, SECOND, THIRD_TWICE])]
MORE = [Question([TOP, FIRST, (0, [("nefiml", "?m", "bng"), ("nefiml", "?o", "?m")]), THIRD_TWICE]),
        Question([TOP, FIRST, SECOND]), Question([TOP, FIRST, SECOND, THIRD_SELF, LAST])]
MUCH_SHOWN = ["?u87vnc", "?pl", "?m", "?y80", "?qhiull", "?q1ifclrogsid", "?o", FAR, "?l22r7o"]
MUCH_RULES = [Rule([("nefiml", "l", "?t"), ("n", "l")], ("nefiml", "?t", "?t"))]


class Much(unittest.TestCase):
    """Points 101 to 104 for woods with many parts that are nearly the same."""

    def test_ways(self):
        found = ways(MUCH, MORE, MUCH_SHOWN, rules=MUCH_RULES)
        right = right_ways(MUCH, MORE, MUCH_SHOWN, MUCH_RULES)
        self.assertEqual((len(found), list(found)), (28, sorted(right)))
        for place, way in found.items():
            self.assertIn(way, right[place])
        self.assertEqual(found[0, (0,)], ("way", 0, (0,), {"?m": "?m"}))
        self.assertEqual(found[2, (0, 3)], ("way", 0, (0, 3), {"?m": "?m", FAR: FAR}))
        self.assertIs(are_ways(found, MUCH, MORE, MUCH_SHOWN, rules=MUCH_RULES), True)
        self.assertIs(part_of(MUCH, MORE, MUCH_SHOWN, rules=MUCH_RULES), True)
        self.assertIsNone(unmet(MUCH, MORE, MUCH_SHOWN, rules=MUCH_RULES))

    def test_each_place_counts(self):
        found = ways(MUCH, MORE, MUCH_SHOWN, rules=MUCH_RULES)
        for place, (_, tree, part, known) in found.items():
            for way in [("clash",), ("way", tree, part[:-1], known), ("way", tree, part, {**known, "?m": "?o"}),
                        ("way", True, part, known), ("way", tree, (False, *part[1:]), known), found[0, (0, 1, 2)],
                        ("way", tree, part, {name: [term] for name, term in known.items()}), ("way", tree, part)]:
                if way != found[place] or way[1] is True or way[2][0] is False:
                    value = {**found, place: way}
                    self.assertIs(are_ways(value, MUCH, MORE, MUCH_SHOWN, rules=MUCH_RULES), False, (place, way))
            less = {other: way for other, way in found.items() if other != place}
            self.assertIs(are_ways(less, MUCH, MORE, MUCH_SHOWN, rules=MUCH_RULES), False)
            number, part = place
            self.assertIs(are_ways({**less, (number, (False, *part[1:])): found[place]}, MUCH, MORE, MUCH_SHOWN,
                                   rules=MUCH_RULES), False)

    def test_less_shown_and_other_orders(self):
        for shown in [[], ["?m"], [FAR, "?pl"], ["?u87vnc"]]:
            for wood, others in [(MUCH, MORE), (MORE, MUCH), (MUCH, MUCH[::-1]), (MORE[::-1], MUCH), (MUCH, MORE[:2])]:
                for rules in [[], MUCH_RULES, [Rule([("nefiml", "?p", "?q")], ("nefiml", "?q", "?p"))]]:
                    right = right_ways(wood, others, shown, rules)
                    found = ways(wood, others, shown, rules=rules)
                    self.assertIs(part_of(wood, others, shown, rules=rules), all(right.values()))
                    if all(right.values()):
                        self.assertEqual(list(found), sorted(right))
                        self.assertTrue(all(found[place] in right[place] for place in right))
                        self.assertIsNone(unmet(wood, others, shown, rules=rules))
                        self.assertIs(are_ways(found, wood, others, shown, rules=rules), True)
                    else:
                        self.assertIsNone(found)
                        store, answer = unmet(wood, others, shown, rules=rules)
                        self.assertIs(is_unmet(store, answer, wood, others, shown, rules=rules), True)


class Ways(unittest.TestCase):
    """Points 101 to 103."""

    def test_part_of(self):
        for wood, others, shown, wanted in [
                ([MAYORS], [PLACES], ["?x"], True), ([MAYORS], [PLACES], ["?x", "?z"], False),
                ([PLACES], [MAYORS], ["?x", "?z"], True), ([PLACES], [MAYORS], ["?w"], False),
                ([MAYORS], [PLACES], [], True), ([MAYORS], [MAYORS], ["?x", "?y", "?z"], True),
                ([MAYORS], [MAYORS.renamed({"?x": "?u"})], ["?x"], False), ([MAYORS, PLACES], [MAYORS], ["?x"], True),
                ([MAYORS, PLACES], [MAYORS], ["?w"], False), ([MAYORS], [PLACES], ["?w", "?w", "?v"], True)]:
            self.assertIs(part_of(wood, others, shown), wanted)
            self.assertIs(part_of(wood, others, tuple(shown * 2), rules=[]), wanted)
            self.assertIs(ways(wood, others, shown) is not None, wanted)
            self.assertIs(unmet(wood, others, shown) is None, wanted)

    def test_woods_without_questions(self):
        self.assertIs(part_of([], [], ["?x"]), True)
        self.assertIs(part_of([], [PLACES], []), True)
        self.assertIs(part_of([PLACES], [], []), False)
        self.assertIs(part_of([EMPTY], [], []), False)
        self.assertIs(part_of([EMPTY], [PLACES], []), False)
        self.assertIs(part_of([PLACES], [EMPTY], []), True)
        self.assertIs(part_of([PLACES], [EMPTY], ["?x"]), False)
        self.assertIs(part_of([PEOPLE], [], [], rules=CLASH), True)
        self.assertEqual([ways([], [], []), ways([PEOPLE], [], ["?x"], rules=CLASH)],
                         [{}, {(0, (0,)): ("clash",)}])

    def test_ways(self):
        self.assertEqual(ways([MAYORS], [PLACES], ["?x"]), {
            (0, (0,)): ("way", 0, (0,), {"?w": "?y", "?x": "?x"}),
            (0, (0, 1)): ("way", 0, (0,), {"?w": "?y", "?x": "?x"})})
        self.assertIsNone(ways([MAYORS], [PLACES], ["?z"]))
        found = ways([TOWNS, MAYORS], [MAYORS, EMPTY, TOWNS], ["?x", "?y"])
        self.assertEqual(list(found), [(0, (0,)), (0, (0, 1)), (1, (0,)), (1, (0, 1))])
        self.assertEqual([found[place][1] for place in found], [2, 0, 0, 0])
        self.assertTrue(all(list(way[3]) == sorted(way[3]) for way in found.values()))

    def test_rules(self):
        both = Question.read("person(?x) town(?x,?y)")
        self.assertIs(part_of([PEOPLE], [both], ["?x"]), False)
        self.assertIs(part_of([PEOPLE], [both], ["?x"], rules=[HOMELESS]), True)
        self.assertEqual(ways([PEOPLE], [both], ["?x"], rules=[HOMELESS]),
                         {(0, (0,)): ("way", 0, (0,), {"?x": "?x", "?y": "rome"})})
        # Closing puts a constant in the place of a shown variable.
        self.assertEqual(ways([both], [Question.read("town(?x,?y)")], ["?y"], rules=[HOMELESS, ONE_TOWN]),
                         {(0, (0,)): ("way", 0, (0,), {"?x": "?x", "?y": "rome"})})
        oslo = Question.read("person(?x)\n age(?x,?z) town(?x,oslo)")
        self.assertIs(part_of([oslo], [PEOPLE], ["?x", "?z"], rules=[HOMELESS]), False)
        self.assertEqual(ways([oslo], [PEOPLE], ["?x", "?z"], rules=[HOMELESS, ONE_TOWN])[0, (0, 1)], ("clash",))

    def test_two_shown_variables_that_become_one(self):
        wood = [Question.read("town(?x,?y) town(?x,?z)")]
        same = [Question.read("last(?y,?z) town(?x,?y) town(?x,?z)")]
        rules = [Rule([("town", "?p", "?q")], ("last", "?q", "?q"))]
        self.assertIs(part_of(wood, same, ["?y", "?z"], rules=rules), False)
        self.assertIs(part_of(wood, same, ["?y", "?z"], rules=[*rules, ONE_TOWN]), True)
        self.assertIs(part_of(wood, same, ["?y"], rules=rules), True)

    def test_are_ways(self):
        good = ways([MAYORS], [PLACES], ["?x"])
        self.assertIs(are_ways(good, [MAYORS], [PLACES], ["?x"]), True)
        turned = {key: (*way[:3], dict(reversed(list(way[3].items())))) for key, way in reversed(list(good.items()))}
        self.assertIs(are_ways(turned, [MAYORS], [PLACES], ["?x", "?x"]), True)
        self.assertIs(are_ways(good, [MAYORS], [PLACES], ["?y"]), False)
        self.assertIs(are_ways(good, [PLACES], [PLACES], ["?x"]), False)
        self.assertIs(are_ways({}, [MAYORS], [PLACES], ["?x"]), False)
        self.assertIs(are_ways({}, [], [PLACES], ["?x"]), True)
        for value in ANY_VALUES:
            self.assertIs(are_ways(value, [MAYORS], [PLACES], ["?x"]), False)
            self.assertIs(are_ways({key: value for key in good}, [MAYORS], [PLACES], ["?x"]), False)
            self.assertIs(are_ways({(0, (0,)): ("way", 0, (0,), value)}, [PLACES], [PLACES], []), False)
            self.assertIs(are_ways({(0, (0,)): ("way", value, (0,), {})}, [EMPTY], [PLACES, EMPTY], []), value == 1
                          and value is not True)
        self.assertIs(are_ways({(0, (0,)): ("clash",)}, [PEOPLE], [], [], rules=CLASH), True)
        for value in [["clash"], "clash", ("clash", 0), (), ("way", 0, (0,), {"?x": "?x"}), {"clash": 0}, None]:
            self.assertIs(are_ways({(0, (0,)): value}, [PEOPLE], [PEOPLE], [], rules=CLASH), False)
        self.assertIs(are_ways({(0, (0,)): ("clash",)}, [PEOPLE], [PEOPLE], []), False)

    def test_terms_of_hidden_variables_may_be_any_values(self):
        for value in [*ANY_VALUES, ["?y"], {"?y": "?y"}, ("?y", []), "?x", "?z"]:
            way = {(0, (0,)): ("way", 0, (0,), {"?w": value, "?x": "?x"}),
                   (0, (0, 1)): ("way", 0, (0,), {"?w": "?y", "?x": "?x"})}
            self.assertIs(are_ways(way, [MAYORS], [PLACES], ["?x"]), value == "?y")
        # The way has as many keys as the part has variables, and what it leads nowhere is there as it is.
        for known in [{"?x": "?x", "?q": "?w"}, {"?x": "?x"}, {"?x": "?x", "?w": "?w", "?q": "?w"}, {"?x": "?x", 0: "?w"}]:
            self.assertIs(are_ways({(0, (0,)): ("way", 0, (0,), known)}, [PLACES], [PLACES], ["?x"]), False)

    def test_any_value(self):
        for shown in [["?x"], ["?x", "?y"]]:
            good = ways([MAYORS], [EMPTY, MAYORS, PLACES], shown)
            right = {key: [canonical(way) for way in several]
                     for key, several in right_ways([MAYORS], [EMPTY, MAYORS, PLACES], shown, []).items()}
            several = 0
            for value in odd_values(good):
                wanted = (isinstance(value, dict) and sorted(map(repr, value)) == sorted(map(repr, right))
                          and all(canonical(value[key]) in right[key] for key in right))
                several += 1
                self.assertIs(are_ways(value, [MAYORS], [EMPTY, MAYORS, PLACES], shown), wanted, value)
            self.assertGreater(several, 100)

    def test_by_definition(self):
        numbers = dice(101)
        seen = {True: 0, False: 0, "clash": 0}
        for _ in range(500):
            wood, others, shown, rules = some_case(numbers)
            right = right_ways(wood, others, shown, rules)
            wanted = all(right.values())
            seen[wanted] += 1
            self.assertIs(part_of(wood, others, shown, rules=rules), wanted)
            found = ways(wood, others, shown, rules=rules)
            self.assertIs(found is not None, wanted)
            if wanted:
                self.assertEqual(list(found), sorted(right))
                for place, way in found.items():
                    self.assertIn(way, right[place])
                    seen["clash"] += way == ("clash",)
                self.assertIs(are_ways(found, wood, others, shown, rules=rules), True)
                chosen = {place: numbers.choice(several) for place, several in right.items()}
                self.assertIs(are_ways(chosen, wood, others, shown, rules=rules), True)
        self.assertGreater(min(seen.values()), 20)

    def test_over_all_stores(self):
        numbers = dice(102)
        answered = Answered()
        told_part = 0
        for _ in range(200):
            wood, others, shown, rules = some_case(numbers)
            if part_of(wood, others, shown, rules=rules):
                told_part += 1
                for store in STORES:
                    if slow_keeps(store.facts, rules):
                        more = left(answered.of(others, store), shown)
                        for known in left(answered.of(wood, store), shown):
                            self.assertTrue(any(known.items() <= other.items() for other in more))
        self.assertGreater(told_part, 60)


class Unmet(unittest.TestCase):
    """Point 104."""

    def test_unmet(self):
        store, answer = unmet([MAYORS], [PLACES], ["?x", "?z"])
        self.assertEqual((store.facts, answer), ((("mayor", "new2", "new3"), ("town", "new1", "new2")),
                                                 {"?x": "new1", "?y": "new2", "?z": "new3"}))
        self.assertIsNone(unmet([MAYORS], [PLACES], ["?x"]))
        self.assertIsNone(unmet([], [], []))
        self.assertEqual(unmet([EMPTY], [], []), (Store(), {}))
        self.assertIsNone(unmet([PEOPLE], [], ["?x"], rules=CLASH))

    def test_the_answer_is_as_full_as_can_be(self):
        # By the rule the part alone is no answer in its store, but there is one above it.
        store, answer = unmet([TOWNS], [EMPTY], ["?x"], rules=[HOMELESS])
        self.assertEqual((store.facts, answer), ((("person", "new1"), ("town", "new1", "rome")),
                                                 {"?x": "new1", "?y": "rome"}))

    def test_constants_that_the_package_made(self):
        wood, others = [Question.read("person(?x)")], [Question.read("person(?x) person(new1)")]
        store, answer = unmet(wood, others, ["?x"])
        self.assertIs(is_unmet(store, answer, wood, others, ["?x"]), True)

    def test_is_unmet(self):
        for answer, shown, wanted in [
                ({"?x": "ann", "?y": "oslo", "?z": "eve"}, ["?x", "?z"], True),
                ({"?x": "ann", "?y": "oslo", "?z": "eve"}, ["?x"], False),
                ({"?x": "ann", "?y": "rome"}, ["?x", "?z"], False), ({"?x": "ann", "?y": "rome"}, ["?y"], True),
                ({"?x": "ann", "?y": "oslo"}, ["?z"], False), ({"?x": "bob"}, ["?x"], False), ({}, [], False),
                ({"?x": "ann", "?y": "rome"}, [], False)]:
            self.assertIs(is_unmet(STORE, answer, [MAYORS], [PLACES], shown), wanted)
        self.assertIs(is_unmet(STORE, {"?x": "ann", "?y": "rome"}, [MAYORS], [], []), True)
        self.assertIs(is_unmet(STORE, {"?x": "ann", "?y": "rome"}, [MAYORS], [], [], rules=[ONE_TOWN]), False)

    def test_by_definition(self):
        numbers = dice(103)
        seen = {True: 0, False: 0}
        for _ in range(400):
            wood, others, shown, rules = some_case(numbers)
            found = unmet(wood, others, shown, rules=rules)
            seen[found is None] += 1
            self.assertIs(found is None, part_of(wood, others, shown, rules=rules))
            if found is not None:
                store, answer = found
                self.assertTrue(slow_keeps(store.facts, rules))
                self.assertIn(answer, slow_answers(wood, store.facts))
                self.assertEqual(list(answer), sorted(answer))
                known = left([answer], shown)[0]
                self.assertFalse([other for other in left(slow_answers(others, store.facts), shown)
                                  if known.items() <= other.items()])
                self.assertIs(is_unmet(store, answer, wood, others, shown, rules=rules), True)
        self.assertGreater(min(seen.values()), 100)

    def test_is_unmet_by_definition(self):
        numbers = dice(104)
        seen = {True: 0, False: 0}
        for _ in range(500):
            wood, others, shown, rules = some_case(numbers, nodes=2)
            store = numbers.choice(STORES)
            mine, more = slow_answers(wood, store.facts), left(slow_answers(others, store.facts), shown)
            for answer in [*mine, *slow_answers(others, store.facts)][:6]:
                known = left([answer], shown)[0]
                wanted = (slow_keeps(store.facts, rules) and answer in mine
                          and not any(known.items() <= other.items() for other in more))
                turned = dict(reversed(list(answer.items())))
                self.assertIs(is_unmet(store, turned, wood, others, shown, rules=rules), wanted)
                seen[wanted] += 1
        self.assertGreater(min(seen.values()), 40)


class Nodes(unittest.TestCase):
    """Point 105."""

    def test_needless_nodes(self):
        self.assertEqual(needless_nodes([MAYORS], ["?x", "?y"]), [(0, 1)])
        self.assertEqual(needless_nodes([MAYORS], ["?z"]), [])
        self.assertEqual(needless_nodes([MAYORS], []), [(0, 1)])
        self.assertEqual(needless_nodes([PEOPLE, EMPTY], []), [])
        self.assertEqual(needless_nodes([], ["?x"]), [])
        self.assertEqual(needless_nodes([MAYORS, MAYORS], ["?z"]), [(0, 1), (1, 1)])
        self.assertEqual(needless_nodes([PEOPLE, WIDE], ["?z"]), [(1, 3), (1, 4)])
        self.assertEqual(needless_nodes([WIDE], ["?x", "?v"]), [(0, 1), (0, 2), (0, 3)])
        self.assertEqual(needless_nodes([WIDE], ["?x", "?w", "?x"]), [(0, 1), (0, 2), (0, 3), (0, 4)])

    def test_rules(self):
        towns = Question.read("person(?x)\n mayor(?z) town(?x,?y)")
        self.assertEqual(needless_nodes([towns], ["?y"], rules=[HOMELESS]), [])
        rules = [Rule([("person", "?p"), ("mayor", "?q")], ("town", "?p", "?q"))]
        self.assertEqual(needless_nodes([towns, Question.read("mayor(?z)")], ["?z"], rules=rules), [(0, 1)])
        self.assertEqual(needless_nodes([towns], ["?y"], rules=CLASH), [(0, 1)])

    def test_without_node(self):
        self.assertEqual(without_node(MAYORS, 1), Question.read("town(?x,?y)"))
        self.assertEqual(without_node(WIDE, 2), Question.read("a(?x)\n b(?x,?y)\n b(?x,?v)"))
        self.assertEqual(without_node(question=WIDE, node=4), Question.read("a(?x)\n b(?x,?y)\n  c(?y,?z)\n   d(?z,?u)"))
        self.assertEqual(len(WIDE), 5)

    def test_bad_nodes(self):
        for value in [*ANY_VALUES, 5, -1, "1", (1,), [1]]:
            if value not in (1, 2) or value is True:
                with self.subTest(value), self.assertRaises(BadNode) as caught:
                    without_node(WIDE, value)
                self.assertIs(caught.exception.index, value)
        for value in [1, 0, None]:
            with self.assertRaises(BadNode):
                without_node(PEOPLE, value)

    def test_by_definition(self):
        numbers = dice(105)
        seen = {True: 0, False: 0}
        for _ in range(200):
            wood, _, shown, rules = some_case(numbers)
            found = needless_nodes(wood, shown, rules=rules)
            self.assertEqual(found, sorted(found))
            for tree, question in enumerate(wood):
                for node in range(1, len(question)):
                    less = Question(slow_without(question.nodes, node))
                    self.assertEqual(without_node(question, node), less)
                    others = [*wood[:tree], less, *wood[tree + 1:]]
                    wanted = all(right_ways(wood, others, shown, rules).values())
                    self.assertIs((tree, node) in found, wanted)
                    # The other way round the wood without the node is part of the wood in any case.
                    self.assertIs(part_of(others, wood, shown, rules=rules), True)
                    seen[wanted] += 1
        self.assertGreater(min(seen.values()), 50)

    def test_without_node_by_definition(self):
        numbers = dice(106)
        for _ in range(200):
            question = some_question(numbers, 6)
            for node in range(1, 6):
                self.assertEqual(without_node(question, node).nodes, slow_without(question.nodes, node))

    def test_at_the_limits(self):
        wood = [star(turn) for turn in range(4)]
        rules = [Key("e", 2, [0]), Rule([("h", "?a", "?b"), ("h", "?b", "?c")], ("h", "?a", "?c")),
                 Rule([("e", "?a", "?b"), ("f", "?b", "?c")], ("h", "?a", "?c")), Rule([("h", "?a", "?b")], ("h", "?b", "?a"))]
        for some in ([], rules):
            self.assertEqual(needless_nodes(wood, ["?x"], rules=some), [(tree, at) for tree in range(4) for at in range(1, 6)])
            self.assertEqual(len(needless_nodes(wood, ["?x", "?y1"], rules=some)), 20)
            self.assertEqual(needless_nodes(wood[:1], ["?y1"], rules=some), [(0, at) for at in (1, 3, 4, 5)])


if __name__ == "__main__":
    unittest.main()
