import itertools
import unittest

from fullestrows.errors import Clash
from fullestrows.facts import Store
from fullestrows.games import candidates, goes_on, is_lost, spoil
from fullestrows.questions import Question
from fullestrows.rules import Key, Rule, keeps, store_of
from values import (
    ANY_VALUES, dice, given, names_in, shaped_lot, slow_closed, slow_lot, slow_maps, slow_next, slow_parts,
    some_question,
)

SHAPES = (("a", 1), ("b", 2), ("b", 2))
TOWNS = Question.read("person(?x)\n town(?x,?y)")
PEOPLE = Question.read("person(?x)")
LOT = [("person", "?a")]
KNOWN = {"?x": "?a"}
ONE_TOWN = Key("town", 2, [0])


def slow_candidates(lot, wood, known):
    """Point 70 to the letter."""
    found = []
    for tree, question in enumerate(wood):
        for part in slow_parts(question.nodes):
            wanted = slow_lot(question.nodes, part)
            if names_in(wanted) == sorted(known) and all(given(p, known) in lot for p in wanted):
                found.append((tree, part))
    return found


def slow_goes_on(lot, wood, known, tree, part):
    """Whether a candidate goes on, by the definition alone."""
    nodes = wood[tree].nodes
    return any(slow_maps(nodes[node][1], lot, known) for node in slow_next(nodes, part))


class Turn:
    """A play after closing, by the definition alone."""

    def __init__(self, lot, wood, known, goals, rules):
        self.wood, self.goals, self.rules = wood, goals, rules
        self.clash = False
        try:
            self.lot, terms = slow_closed(lot, rules, dice(0))
        except Clash:
            self.clash = True
            return
        self.known = {name: terms.get(known[name], known[name]) for name in sorted(known)}
        self.had = [at for at, goal in enumerate(goals) if slow_maps(goal, self.lot, self.known)]
        self.waiting = [pair for pair in slow_candidates(self.lot, wood, self.known)
                        if not slow_goes_on(self.lot, wood, self.known, *pair)]

    def choices(self):
        """The next nodes of the first candidate that does not go on, with the plays that follow."""
        tree, part = self.waiting[0]
        nodes = self.wood[tree].nodes
        return [(node, Turn(self.with_node(nodes[node][1]), self.wood, self.known, self.goals, self.rules))
                for node in slow_next(nodes, part)]

    def with_node(self, wanted):
        """The lot with the patterns of a node put in."""
        used = names_in(self.lot) + names_in([p for question in self.wood for _, lot in question.nodes for p in lot])
        fresh = [name for name in (f"?new{number}" for number in range(1, 100)) if name not in used]
        names = dict(zip([name for name in names_in(wanted) if name not in self.known], fresh))
        return [*self.lot, *[given(pattern, {**names, **self.known}) for pattern in wanted]]

    def wins(self):
        """All ends (lot, known) with which the spoiler wins."""
        if self.clash or self.had:
            return []
        if not self.waiting:
            return [(self.lot, self.known)]
        return [end for _, turn in self.choices() for end in turn.wins()]

    def proves(self, paper):
        """Whether a paper, made of the right kinds of values, shows that the spoiler loses."""
        if self.clash or paper[0] == "clash":
            return self.clash and paper == ("clash",)
        if paper[0] == "had":
            _, index, found = paper
            goal = self.goals[index]
            return (sorted(found) == sorted({*self.known, *names_in(goal)})
                    and all(found[name] == term for name, term in self.known.items())
                    and all(given(pattern, found) in self.lot for pattern in goal))
        if not self.waiting or paper[1:3] != self.waiting[0]:
            return False
        choices = self.choices()
        if paper[0] == "stuck":
            return len(paper) == 3 and not choices
        return (choices != [] and [row[0] for row in paper[3]] == [node for node, _ in choices]
                and all(turn.proves(row[1]) for (_, turn), row in zip(choices, paper[3])))


def some_rules(numbers):
    """Up to two rules."""
    rules = []
    for _ in range(numbers.choice([0, 0, 1, 1, 2])):
        if numbers.random() < 0.4:
            rules.append(Key("b", 2, [numbers.randint(0, 1)]))
        else:
            body = shaped_lot(numbers, numbers.randint(1, 2), ["?p", "?q", "?u", "k"], SHAPES)
            rules.append(Rule(body, shaped_lot(numbers, 1, [*names_in(body), "k"], SHAPES)[0]))
    return rules


def some_play(numbers):
    """A play about the patterns of a part of the first question, and what else may be there."""
    wood = [some_question(numbers, numbers.randint(1, 4), root=numbers.random() < 0.9, shapes=SHAPES)
            for _ in range(numbers.randint(1, 3))]
    part = numbers.choice(wood[0].parts()[:3])
    terms = ["?p", "?q", "?s", "?t", "k", "m"]
    known = {name: numbers.choice(terms) for name in reversed(wood[0].variables(part))}
    lot = [given(pattern, known) for pattern in wood[0].patterns(part)]
    lot += shaped_lot(numbers, numbers.randint(0, 2), terms, SHAPES)
    held = sorted({term for pattern in lot for term in pattern[1:]})
    known = {name: term if term in held else held[0] for name, term in known.items()}
    goals = [shaped_lot(numbers, numbers.randint(1, 2), ["?p", "?q", "?z", "k"], SHAPES)
             for _ in range(numbers.choice([0, 0, 1, 1, 2]))]
    return lot, wood, known, goals, some_rules(numbers)


def shown_by(store, known, lot, wood, goals, rules):
    """Whether a store keeps rules, has a lot, and there each candidate goes on and no goal is had."""
    return (keeps(store, rules) and all(pattern in store for pattern in lot)
            and all(slow_goes_on(store.facts, wood, known, *pair) for pair in slow_candidates(store.facts, wood, known))
            and not any(slow_maps(goal, store.facts, known) for goal in goals))


class Candidates(unittest.TestCase):
    """Point 70."""

    def test_candidates(self):
        self.assertEqual(candidates(LOT, [PEOPLE, TOWNS], KNOWN), [(0, (0,)), (1, (0,))])
        self.assertEqual(candidates([("town", "?a", "?b"), ("person", "?a")], [PEOPLE, TOWNS],
                                    {"?y": "?b", "?x": "?a"}),
                         [(1, (0, 1))])
        self.assertEqual(candidates([("person", "ann")], [TOWNS], {"?x": "ann"}), [(0, (0,))])

    def test_no_candidates(self):
        for lot, known in [(LOT, {}), (LOT, {"?x": "?b"}), (LOT, {"?x": "ann"}), (LOT, {"?x": "?a", "?y": "?a"}),
                           ([], KNOWN),
                           (LOT, {"?y": "?a"}), ([("person", "?x")], KNOWN), (LOT, {"?w": "?a"})]:
            self.assertEqual(candidates(lot, [TOWNS, PEOPLE], known), [])
        self.assertEqual(candidates(LOT, [], KNOWN), [])

    def test_question_without_variables(self):
        halt = Question.read("halt()\n a(?x)")
        self.assertEqual(candidates([("halt",)], [halt, Question.read("-")], {}), [(0, (0,)), (1, (0,))])
        self.assertEqual(candidates([], [halt, Question.read("-")], {}), [(1, (0,))])
        self.assertIs(goes_on([("halt",), ("a", "?q")], [halt], {}, 0, (0,)), True)

    def test_goes_on(self):
        self.assertIs(goes_on(LOT, [TOWNS], KNOWN, 0, (0,)), False)
        self.assertIs(goes_on([*LOT, ("town", "?a", "?y")], [PEOPLE, TOWNS], KNOWN, 1, (0,)), True)
        self.assertIs(goes_on([*LOT, ("town", "?a", "?a")], [TOWNS], KNOWN, 0, (0,)), True)
        self.assertIs(goes_on([*LOT, ("town", "?b", "?a")], [TOWNS], KNOWN, 0, (0,)), False)
        # The variables of the lot are not those of the wood.
        self.assertIs(goes_on([*LOT, ("town", "?x", "?y")], [TOWNS], KNOWN, 0, (0,)), False)
        both = [*LOT, ("town", "?a", "oslo")]
        self.assertIs(goes_on(both, [PEOPLE, TOWNS], KNOWN, 0, (0,)), False)
        self.assertIs(goes_on(both, [TOWNS], {"?x": "?a", "?y": "oslo"}, 0, (0, 1)), False)

    def test_by_definition(self):
        numbers = dice(70)
        seen = {True: 0, False: 0}
        for _ in range(500):
            lot, wood, known, _, _ = some_play(numbers)
            lot = [*lot, *shaped_lot(numbers, 3, ["?p", "?q", "k"], SHAPES)]
            found = slow_candidates(lot, wood, known)
            self.assertEqual(candidates(lot, wood, known), found)
            for tree, part in found:
                on = slow_goes_on(lot, wood, known, tree, part)
                seen[on] += 1
                self.assertIs(goes_on(lot, wood, known, tree, part), on)
        self.assertGreater(min(seen.values()), 50)


class Plays(unittest.TestCase):
    """Points 71 and 72."""

    def test_won(self):
        won = ("won", [("person", "?a"), ("town", "?a", "?new1")], {"?x": "?a"})
        self.assertEqual(spoil(LOT, [TOWNS], KNOWN), won)
        self.assertEqual(spoil(tuple(LOT) * 2, (TOWNS, TOWNS), KNOWN, goals=(), rules=()), won)

    def test_won_at_once(self):
        self.assertEqual(spoil(LOT, [], KNOWN), ("won", LOT, KNOWN))
        self.assertEqual(spoil([], [], {}), ("won", [], {}))
        self.assertEqual(spoil(LOT, [PEOPLE], {"?y": "?a"}), ("won", LOT, {"?y": "?a"}))
        self.assertEqual(spoil(LOT, [PEOPLE], KNOWN, rules=[Rule([("person", "?p")], ("town", "?p", "?p"))])[0], "lost")
        self.assertEqual(spoil(LOT, [TOWNS], KNOWN, rules=[Rule([("person", "?p")], ("town", "?p", "?p"))]),
                         ("won", [("person", "?a"), ("town", "?a", "?a")], KNOWN))

    def test_known_is_ascending_and_replaced(self):
        lot = [("town", "?b", "?c"), ("town", "?b", "?a"), ("f", "?d")]
        wood = [Question.read("town(?u,?v)\n mayor(?v,?w)")]
        end = spoil(lot, wood, {"?v": "?c", "?u": "?b"}, rules=[ONE_TOWN])
        self.assertEqual(end, ("won", [("f", "?d"), ("mayor", "?a", "?new1"), ("town", "?b", "?a")],
                               {"?u": "?b", "?v": "?a"}))
        self.assertEqual(list(end[2]), ["?u", "?v"])
        end = spoil([*lot, ("town", "?b", "oslo")], [], {"?u": "?c", "?t": "oslo"}, rules=[ONE_TOWN])
        self.assertEqual(list(end[2].items()), [("?t", "oslo"), ("?u", "oslo")])

    def test_clash(self):
        lot = [("town", "?a", "oslo"), ("town", "?a", "rome"), ("person", "?a")]
        self.assertEqual(spoil(lot, [TOWNS], KNOWN, rules=[ONE_TOWN]), ("lost", ("clash",)))
        self.assertEqual(spoil(lot, [], KNOWN, rules=[ONE_TOWN]), ("lost", ("clash",)))
        self.assertEqual(spoil(lot, [], KNOWN), ("won", sorted(lot), KNOWN))
        # A clash comes ahead of a goal.
        self.assertEqual(spoil(lot, [TOWNS], KNOWN, goals=[[]], rules=[ONE_TOWN]), ("lost", ("clash",)))

    def test_clash_after_a_choice(self):
        rome = Rule([("person", "?p")], ("town", "?p", "rome"))
        oslo = Question.read("person(?x)\n age(?x,?z) town(?x,oslo)")
        self.assertEqual(spoil(LOT, [oslo], KNOWN, rules=[rome, ONE_TOWN]),
                         ("lost", ("put", 0, (0,), [(1, ("clash",))])))

    def test_had(self):
        goals = [[("town", "?x", "?z")], [("person", "?x")], []]
        self.assertEqual(spoil(LOT, [TOWNS], KNOWN, goals=goals), ("lost", ("had", 1, {"?x": "?a"})))
        self.assertEqual(spoil(LOT, [], KNOWN, goals=[[]]), ("lost", ("had", 0, {"?x": "?a"})))
        # A goal that is had counts even if each candidate goes on, and ahead of a candidate that is stuck.
        lot = [*LOT, ("town", "?a", "?b")]
        self.assertEqual(spoil(lot, [TOWNS], KNOWN, goals=[[("town", "?z", "?y")]]),
                         ("lost", ("had", 0, {"?x": "?a", "?y": "?b", "?z": "?a"})))
        self.assertEqual(spoil(LOT, [PEOPLE], KNOWN, goals=[[("person", "?q")]]),
                         ("lost", ("had", 0, {"?q": "?a", "?x": "?a"})))

    def test_goals_keep_what_is_known(self):
        lot = [*LOT, ("town", "?b", "oslo")]
        self.assertEqual(spoil(lot, [], KNOWN, goals=[[("town", "?x", "?y")]])[0], "won")
        self.assertEqual(spoil(lot, [], KNOWN, goals=[[("town", "?z", "?y")]])[0], "lost")

    def test_goal_by_rules(self):
        known = Rule([("town", "?p", "?t")], ("goal",))
        self.assertEqual(spoil(LOT, [TOWNS], KNOWN, goals=[[("goal",)]], rules=[known]),
                         ("lost", ("put", 0, (0,), [(1, ("had", 0, KNOWN))])))

    def test_stuck(self):
        self.assertEqual(spoil(LOT, [PEOPLE], KNOWN), ("lost", ("stuck", 0, (0,))))
        self.assertEqual(spoil([*LOT, ("town", "?a", "?b")], [PEOPLE, TOWNS], {"?x": "?a", "?y": "?b"}),
                         ("lost", ("stuck", 1, (0, 1))))

    def test_put(self):
        self.assertEqual(spoil(LOT, [TOWNS, PEOPLE], KNOWN),
                         ("lost", ("put", 0, (0,), [(1, ("stuck", 1, (0,)))])))
        # The first candidate that does not go on comes first, even if another one is stuck already.
        self.assertEqual(spoil(LOT, [PEOPLE, TOWNS], KNOWN), ("lost", ("stuck", 0, (0,))))
        several = Question.read("person(?x)\n town(?x,?y)\n age(?x,?z)\n mail(?x,?w)")
        goals = [[("mail", "?x", "?y")], [("age", "?p", "?q")], [("town", "?x", "?x")]]
        self.assertEqual(spoil(LOT, [several], KNOWN, goals=goals),
                         ("won", [("person", "?a"), ("town", "?a", "?new1")], KNOWN))
        self.assertEqual(spoil(LOT, [several], KNOWN, goals=[*goals[:2], [("town", "?x", "?q")]]), (
            "lost", ("put", 0, (0,), [
                (1, ("had", 2, {"?q": "?new1", "?x": "?a"})),
                (2, ("had", 1, {"?p": "?a", "?q": "?new1", "?x": "?a"})),
                (3, ("had", 0, {"?x": "?a", "?y": "?new1"}))])))

    def test_candidate_that_comes_later(self):
        lower = Question.read("person(?x)\n town(?x,?z)")
        ended = Question.read("-\n person(?x) town(?x,?x)")
        tied = Rule([("town", "?p", "?q")], ("town", "?p", "?p"))
        self.assertEqual(spoil(LOT, [ended, lower], KNOWN, rules=[tied]),
                         ("lost", ("put", 1, (0,), [(1, ("stuck", 0, (0, 1)))])))

    def test_fresh_variables(self):
        wide = Question.read("a(?x)\n b(?x,?z,?y) b(?y,?w)")
        self.assertEqual(spoil([("a", "?q")], [wide], {"?x": "?q"})[1],
                         [("a", "?q"), ("b", "?new2", "?new1"), ("b", "?q", "?new3", "?new2")])
        # Those that occur in the lot, as it came out of another play, are left out.
        lot = [("a", "?new1"), ("c", "?new3")]
        self.assertEqual(spoil(lot, [wide], {"?x": "?new1"})[1],
                         [("a", "?new1"), ("b", "?new1", "?new5", "?new4"), ("b", "?new4", "?new2"), ("c", "?new3")])

    def test_fresh_variables_of_several_puts(self):
        wood = [Question.read("a(?x)\n b(?x,?y)"), Question.read("a(?x)\n c(?x,?y,?z)")]
        self.assertEqual(spoil([("a", "k")], wood, {"?x": "k"})[1],
                         [("a", "k"), ("b", "k", "?new1"), ("c", "k", "?new2", "?new3")])
        # A fresh variable that closing took away may come again.
        self.assertEqual(spoil([("a", "k")], wood, {"?x": "k"}, rules=[Rule([("a", "?p")], ("b", "k", "?p"))])[1],
                         [("a", "k"), ("b", "k", "k"), ("c", "k", "?new1", "?new2")])
        same = [Rule([("a", "?p")], ("d", "?p", "?p")), Rule([("b", "?p", "?q")], ("d", "?p", "?q")), Key("d", 2, [0])]
        self.assertEqual(spoil([("a", "k")], wood, {"?x": "k"}, rules=same)[1],
                         [("a", "k"), ("b", "k", "k"), ("c", "k", "?new1", "?new2"), ("d", "k", "k")])

    def test_fresh_variables_are_not_those_of_the_wood(self):
        made = spoil([("a", "?q")], [Question.read("a(?x)\n b(?x,?y)")], {"?x": "?q"})[1]
        question = Question([(None, [("a", "?x")]), (0, made), (0, [("b", "?x", "?z")])]).renamed({"?q": "?w"})
        self.assertEqual(spoil([("a", "?q")], [question], {"?x": "?q"}, goals=[[("a", "?x")]])[0], "lost")
        self.assertEqual(spoil([("a", "?q")], [question], {"?x": "?q"})[1],
                         [("a", "?new3"), ("a", "?q"), ("b", "?new3", "?new2")])

    def test_variables_are_kept_apart(self):
        lot = [("a", "?y"), ("b", "?y", "?x")]
        wood = [Question.read("a(?x)\n b(?x,?y)")]
        self.assertEqual(spoil(lot, wood, {"?x": "?y"}), ("won", sorted(lot), {"?x": "?y"}))
        swap = Rule([("b", "?x", "?y")], ("b", "?y", "?x"))
        self.assertEqual(spoil(lot, [], {"?x": "?y"}, rules=[swap])[1],
                         [("a", "?y"), ("b", "?x", "?y"), ("b", "?y", "?x")])
        self.assertEqual(spoil(lot, [], {"?x": "?y"}, goals=[[("b", "?x", "?y")]]),
                         ("lost", ("had", 0, {"?x": "?y", "?y": "?x"})))
        self.assertEqual(spoil(lot, [], {"?x": "?y"}, goals=[[("b", "?y", "?x")]])[0], "won")

    def test_by_definition(self):
        numbers = dice(72)
        seen = {"won": 0, "clash": 0, "had": 0, "stuck": 0, "put": 0}
        for _ in range(1200):
            lot, wood, known, goals, rules = some_play(numbers)
            end = spoil(lot, wood, known, goals=goals, rules=rules)
            turn = Turn(lot, wood, known, goals, rules)
            wins = turn.wins()
            if end[0] == "won":
                self.assertIn(end[1:], wins)
                self.assertEqual(list(end[2]), sorted(known))
                seen["won"] += 1
            else:
                self.assertEqual((end[0], len(end), wins), ("lost", 2, []))
                self.assertTrue(turn.proves(end[1]))
                self.assertIs(is_lost(end[1], lot, wood, known, goals=goals, rules=rules), True)
                seen[end[1][0]] += 1
            self.assertEqual(spoil(lot, wood, dict(sorted(known.items())), goals=goals, rules=rules), end)
        self.assertGreater(min(seen.values()), 15)


class MainStatement(unittest.TestCase):
    """Point 74."""

    def test_won_shows_a_store(self):
        numbers = dice(74)
        won = 0
        for _ in range(800):
            lot, wood, known, goals, rules = some_play(numbers)
            end = spoil(lot, wood, known, goals=goals, rules=rules)
            if end[0] == "won":
                won += 1
                store, names = store_of(end[1])
                # What became of the variables of the given lot is seen where known holds them too.
                whole = {**known, **{f"?lot{name[1:]}": name for name in names_in(lot)}}
                kept = slow_ends(lot, wood, known, goals, rules, whole)
                value = {name: names.get(term, term) for name, term in kept[0].items()}
                filling = {name: value[f"?lot{name[1:]}"] for name in names_in(lot)}
                there = {name: filling.get(term, term) for name, term in known.items()}
                self.assertTrue(shown_by(store, there, [given(p, filling) for p in lot], wood, goals, rules))
        self.assertGreater(won, 200)

    def test_lost_in_all_stores(self):
        numbers = dice(75)
        everything = [("a", one) for one in "km"] + [("b", one, other) for one in "km" for other in "km"]
        stores = [Store(facts) for size in range(7) for facts in itertools.combinations(everything, size)]
        seen = {"won": 0, "lost": 0}
        for _ in range(250):
            lot, wood, known, goals, rules = some_play(numbers)
            end = spoil(lot, wood, known, goals=goals, rules=rules)[0]
            seen[end] += 1
            if end == "lost":
                names = names_in(lot)
                for values in itertools.product("km", repeat=len(names)):
                    filling = dict(zip(names, values))
                    there = {name: filling.get(term, term) for name, term in known.items()}
                    wanted = [given(pattern, filling) for pattern in lot]
                    fit = [store for store in stores if all(fact in store.facts for fact in wanted)]
                    for store in numbers.sample(fit, min(len(fit), 12)):
                        self.assertFalse(shown_by(store, there, wanted, wood, goals, rules))
        self.assertGreater(min(seen.values()), 50)


def slow_ends(lot, wood, known, goals, rules, whole):
    """What becomes of further terms along the way to the end that spoil finds: its first win."""
    turn = Turn(lot, wood, known, goals, rules)
    tail = Turn(lot, [], whole, [], rules)
    terms = tail.known
    while turn.waiting:
        for node, lower in turn.choices():
            if lower.wins():
                put = turn.with_node(turn.wood[turn.waiting[0][0]].nodes[node][1])
                terms = Turn(put, [], terms, [], rules).known
                turn = lower
                break
    return terms, turn.lot


class Papers(unittest.TestCase):
    """Point 73."""

    def check(self, paper, wanted, lot=LOT, wood=(TOWNS, PEOPLE), known=KNOWN, goals=(), rules=()):
        self.assertIs(is_lost(paper, lot, wood, known, goals=goals, rules=rules), wanted, paper)

    def test_any_value(self):
        several = [*ANY_VALUES, ("clash",), ["clash"], ("stuck",), ("put",), ("had",), ("stuck", 0), ("put", 0, (0,)),
                   ("had", 0),
                   ("lost", ("stuck", 0, (0,))), ("put", 0, (0,), None), ("put", 0, (0,), [None]),
                   ("put", 0, (0,), [[]]),
                   ("put", 0, (0,), [()]), ("put", 0, (0,), [(1,)]), ("put", 0, (0,), {1: ("stuck", 1, (0,))}), "clash",
                   ("had", None, {}), ("had", 0, {}), ("had", 0, KNOWN), ("had", -1, KNOWN), ([],), ({},), (None,),
                   ((),)]
        for value in several:
            self.check(value, False)

    def test_clash(self):
        lot = [*LOT, ("town", "?a", "oslo"), ("town", "?a", "rome")]
        for paper in [["clash"], ("clash", 0), (), "clash", ("stuck", 1, (0,)), None, ("had", 0, KNOWN)]:
            self.check(paper, False, lot=lot, goals=[[]], rules=[ONE_TOWN])
        self.check(("clash",), True, lot=lot, rules=[ONE_TOWN])
        self.check(("clash",), True, lot=lot, goals=[[]], rules=[ONE_TOWN])
        self.check(("clash",), False, lot=lot)

    def test_stuck(self):
        for paper, wanted in [
            (("stuck", 0, (0,)), True), (["stuck", 0, (0,)], False), (("stuck", False, (0,)), False),
            (("stuck", 0, (False,)), False), (("stuck", 0, [0]), False), (("stuck", 0, (0,), []), False),
            (("stuck", 1, (0,)), False), (("stuck", 0, (0, 1)), False), (("put", 0, (0,), []), False),
            (("stuck", 0), False), (("Stuck", 0, (0,)), False), (("stuck", "0", (0,)), False),
            (("stuck", 0, None), False),
        ]:
            self.check(paper, wanted, wood=[PEOPLE, TOWNS])
        lot = [*LOT, ("town", "?a", "?b")]
        for part, wanted in [((0, 1), True), ((0, True), False), ((False, 1), False), ([0, 1], False), ((0,), False)]:
            self.check(("stuck", 0, part), wanted, lot=lot, known={"?x": "?a", "?y": "?b"})
        # Only the first candidate that does not go on counts.
        self.check(("stuck", 1, (0,)), True, lot=[*LOT, ("town", "?a", "?b")])
        self.check(("stuck", 1, (0,)), False)
        self.check(("stuck", 0, (0,)), False)

    def test_put(self):
        good = ("put", 0, (0,), [(1, ("stuck", 1, (0,)))])
        self.check(good, True)
        self.check(("put", 0, (0,), ((1, ("stuck", 1, (0,))),)), True)
        for paper in [
            list(good), ("put", False, (0,), good[3]), ("put", 0, (False,), good[3]), ("put", 0, [0], good[3]),
            ("put", 1, (0,), good[3]), (*good, None), ("put", 0, (0,), []), ("put", 0, (0,), [*good[3], *good[3]]),
            ("put", 0, (0,), [[1, ("stuck", 1, (0,))]]), ("put", 0, (0,), [(True, ("stuck", 1, (0,)))]),
            ("put", 0, (0,), [(2, ("stuck", 1, (0,)))]), ("put", 0, (0,), [(1, ["stuck", 1, (0,)])]),
            ("put", 0, (0,), [(1, ("stuck", 0, (0,)))]), ("put", 0, (0,), [(1, ("stuck", True, (0,)))]),
            ("put", 0, (0,), [(1, ("stuck", 1, (0,)), None)]), ("put", 0, (0,), "a"), ("stuck", 0, (0,), good[3]),
            ("put", 0, (0,), [(1, ("clash",))]), ("put", 0, (0,), [(0, ("stuck", 1, (0,)))]),
            ("put", 0, (0,), [(1, good)]),
        ]:
            self.check(paper, False)

    def test_rows_for_all_next_nodes(self):
        wood = [Question.read("person(?x)\n town(?x,?y)\n age(?x,?z)"), PEOPLE]
        rows = [(1, ("stuck", 1, (0,))), (2, ("stuck", 1, (0,)))]
        self.check(("put", 0, (0,), rows), True, wood=wood)
        for other in [rows[:1], rows[1:], rows[::-1], [rows[0], rows[0]], [*rows, rows[1]]]:
            self.check(("put", 0, (0,), other), False, wood=wood)

    def test_had(self):
        lot = [*LOT, ("town", "?a", "?b"), ("town", "?a", "?c")]
        goals = [[("person", "?z")], [("age", "?x", "?y")], [("town", "?x", "?y")]]
        for paper, wanted in [
            (("had", 0, {"?z": "?a", "?x": "?a"}), True), (("had", 0, {"?x": "?a", "?z": "?a"}), True),
            (("had", 2, {"?x": "?a", "?y": "?b"}), True), (("had", 2, {"?x": "?a", "?y": "?c"}), True),
            (("had", 2, {"?x": "?a", "?y": "?a"}), False), (("had", 2, {"?x": "?a"}), False), (("had", 2, {}), False),
            (("had", 2, {"?x": "?a", "?y": "?b", "?z": "?a"}), False), (("had", 2, {"?x": "?a", "?w": "?b"}), False),
            (("had", 1, {"?x": "?a", "?y": "?b"}), False), (("had", 3, {"?x": "?a"}), False),
            (("had", -1, {"?x": "?a", "?y": "?b"}), False), (("had", False, {"?z": "?a", "?x": "?a"}), False),
            (("had", "0", {"?z": "?a", "?x": "?a"}), False), (("had", None, {"?z": "?a", "?x": "?a"}), False),
            (["had", 0, {"?z": "?a", "?x": "?a"}], False), (("had", 0, {"?z": "?a", "?x": "?a"}, 0), False),
            (("had", 0, {"?z": "?a", "?x": "?b"}), False), (("had", 0, {"?z": ["?a"], "?x": "?a"}), False),
            (("had", 0, {"?z": None, "?x": "?a"}), False), (("had", 0, [("?x", "?a"), ("?z", "?a")]), False),
            (("had", 0, {"?x": "?a", None: "?a"}), False), (("had", 0, {"?x": "?a", 0: 0}), False), (("had", 0), False),
            (("had", 2, {"?x": "?a", "?y": ("?b",)}), False), (("had", (0,), {"?z": "?a", "?x": "?a"}), False),
        ]:
            self.check(paper, wanted, lot=lot, goals=goals)
        for found in [None, "?x?z", ["?x", "?z"], ("?x", "?z"), [], 2, {"?x": {}, "?z": "?a"}, {"?x": "?a", "?z": {}}]:
            self.check(("had", 0, found), False, lot=lot, goals=goals)

    def test_had_with_variables_of_the_same_name(self):
        lot = [*LOT, ("town", "?a", "?y"), ("town", "?a", "?a")]
        goals = [[("town", "?x", "?y")]]
        for found, wanted in [({"?x": "?a", "?y": "?y"}, True), ({"?x": "?a", "?y": "?a"}, True), ({"?x": "?a"}, False),
                              ({"?x": "?a", "?w": "?y"}, False), ({"?y": "?y", "?w": "?a"}, False)]:
            self.check(("had", 0, found), wanted, lot=lot, goals=goals)

    def test_others_count_where_a_goal_is_had(self):
        goals = [[("person", "?x")]]
        self.check(("had", 0, KNOWN), True, goals=goals)
        self.check(("stuck", 0, (0,)), True, wood=[PEOPLE], goals=goals)
        self.check(("put", 0, (0,), [(1, ("stuck", 1, (0,)))]), True, goals=goals)
        self.check(("put", 0, (0,), [(1, ("had", 0, KNOWN))]), True, goals=goals)
        self.check(("clash",), False, goals=goals)

    def test_play_that_is_won(self):
        for paper in [("clash",), ("stuck", 0, (0,)), ("put", 0, (0,), []), ("put", 0, (0,), [(1, ("clash",))]),
                      ("had", 0, KNOWN)]:
            self.check(paper, False, wood=[TOWNS])
            self.check(paper, False, wood=[])

    def test_spoiled_papers(self):
        numbers = dice(73)
        good = 0
        tried = 0
        while tried < 1500:
            play = some_play(numbers)
            end = spoil(*play[:3], goals=play[3], rules=play[4])
            if end[0] == "won":
                continue
            turn = Turn(*play)
            for _ in range(5):
                tried += 1
                paper = changed(numbers, end[1], play)
                wanted = turn.proves(paper)
                good += wanted
                self.assertIs(is_lost(paper, *play[:3], goals=play[3], rules=play[4]), wanted, paper)
        self.assertTrue(150 < good < 1300)


def changed(numbers, paper, play):
    """A paper, made of the right kinds of values, with something changed in it."""
    lot, wood, known, goals, _ = play
    if paper[0] == "put" and numbers.random() < 0.6:
        rows = list(paper[3])
        at = numbers.randrange(len(rows))
        rows[at] = (rows[at][0], changed(numbers, rows[at][1], play))
        return (*paper[:3], rows)
    kinds = ["clash", "stuck"]
    if goals:
        index = numbers.randrange(len(goals))
        terms = [term for pattern in lot for term in pattern[1:]] + ["?new1", "k"]
        if paper[0] == "had" and numbers.random() < 0.5:
            return "had", index, {name: paper[2].get(name, numbers.choice(terms)) for name in paper[2]}
        kinds.append("had")
        found = {**{name: numbers.choice(terms) for name in names_in(goals[index])}, **known}
    kind = numbers.choice(kinds)
    if kind == "had":
        return "had", index, found
    tree = numbers.randrange(len(wood))
    return ("clash",) if kind == "clash" else ("stuck", tree, numbers.choice(wood[tree].parts()))


if __name__ == "__main__":
    unittest.main()
