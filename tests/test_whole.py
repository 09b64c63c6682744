"""Over the whole program: what is told in one way agrees with what is told in another."""

import unittest

from fullestrows.answers import answers, by_part, changes, each_answer, fullest, is_answer, lost, tellers
from fullestrows.complete import enough_tables, is_later, is_settled, settled_answers, unsettling
from fullestrows.containment import always_alone, contained, never_answers, papers, parting
from fullestrows.desk import Desk, read_desk
from fullestrows.facts import Store
from fullestrows.forms import Form, form_of, meaning, shrunk, wood_of
from fullestrows.games import is_lost, spoil
from fullestrows.later import always_final, final_answers, final_paper, is_final, is_final_paper, undoing, unsettled
from fullestrows.matching import count_maps, each_map, first_map, in_order, is_above, maps, only_keys
from fullestrows.questions import Question
from fullestrows.reasons import clearing, in_the_way, lacking, needed, support, why_not
from fullestrows.rules import Key, Rule, broken, closed, keeps, store_of
from fullestrows.shown import needless_nodes, part_of, shown_answers, unmet, ways
from fullestrows.thinning import alike, always_had, needless, strikes, struck, thinned, tightened
from fullestrows.unknowns import against, is_possible, is_sure, some_store, sure_maps, why_sure
from small import SHAPES, STORES, changed_wood, some_implication, some_rules, some_wood
from values import dice, shaped_lot, slow_answers, slow_maps, told

NAMES = {"k": "moon", "m": "mars", "n": "sun", "a": "tab", "b": "row", "c": "col"}
VARIABLES = {f"?{name}": f"?v{at}{name}" for at, name in enumerate("zyxwvutsrqp")}


def some_case(numbers):
    """A wood, another one that is near, a store that keeps rules, and the rules."""
    while True:
        wood, rules = some_wood(numbers, nodes=3, constants=("k",)), some_rules(numbers)
        store = numbers.choice(STORES)
        if keeps(store, rules):
            return wood, changed_wood(numbers, wood), store, rules


def other_term(term):
    """A term with other names."""
    return VARIABLES.get(term, NAMES.get(term, term))


def other_pattern(pattern):
    return tuple(other_term(term) for term in pattern)


def other_question(question):
    return Question([(parent, [other_pattern(pattern) for pattern in lot]) for parent, lot in question.nodes])


def other_rule(rule):
    if isinstance(rule, Key):
        return Key(NAMES[rule.table], rule.size, rule.places)
    return Rule([other_pattern(pattern) for pattern in rule.body], other_pattern(rule.head))


def other_names(value):
    """Any value in which constants, tables and variables have other names."""
    if isinstance(value, Question):
        return other_question(value)
    if isinstance(value, (Key, Rule)):
        return other_rule(value)
    if isinstance(value, Store):
        return Store([other_pattern(fact) for fact in value])
    if isinstance(value, dict):
        return {other_names(key): other_names(item) for key, item in value.items()}
    if isinstance(value, (list, tuple)):
        return value.__class__(other_names(item) for item in value)
    return other_term(value) if isinstance(value, str) else value


def loosely(value):
    """A value in which the order of lists and dicts means nothing."""
    if isinstance(value, dict):
        return sorted(repr((loosely(key), loosely(item))) for key, item in value.items())
    if isinstance(value, (list, tuple)):
        return sorted(repr(loosely(item)) for item in value)
    return value.nodes if isinstance(value, Question) else value.facts if isinstance(value, Store) else value


class AnswersInManyWays(unittest.TestCase):
    def test_the_same_answers(self):
        numbers = dice(200)
        many = 0
        for _ in range(250):
            wood, _, store, rules = some_case(numbers)
            found = answers(wood, store)
            many += len(found)
            names = sorted({name for question in wood for name in question.variables()})
            desk = Desk(store.facts, rules=rules)
            desk.name("wood", wood)
            ways_to_tell = [
                slow_answers(wood, store.facts), in_order(list(each_answer(wood, store))),
                in_order([known for question in wood for several in by_part(question, store).values()
                          for known in several]),
                answers([Question.read(question.text()) for question in wood], store),
                answers([Question(question.nodes) for question in wood], Store.read(store.text())),
                answers([tightened(question, rules=rules) for question in wood], store),
                answers(thinned(wood, rules=rules)[0], store), shown_answers(wood, store, names),
                desk.answers("wood"), desk.supposed([], [], "wood"),
                read_desk(desk.text(), rules=rules).answers("wood"), changes(wood, Store(), store)[1]
                + [known for known in found if is_answer(wood, Store(), known)],
                answers(list(reversed(wood)), store), answers([*wood, *wood], store)]
            for other in ways_to_tell:
                self.assertEqual(told(in_order(other)), told(found))
        self.assertGreater(many, 200)

    def test_forms_and_woods(self):
        numbers = dice(201)
        for _ in range(200):
            wood = some_wood(numbers, nodes=4, least=1)
            store = Store(shaped_lot(numbers, numbers.randint(0, 12), ["k", "m", "n"], SHAPES))
            form = form_of(wood)
            found = answers(wood, store)
            for other in [form, Form.read(form.text())]:
                self.assertEqual(meaning(other, store), found)
                self.assertEqual(answers(wood_of(other), store), found)
            again = wood_of(form_of(wood_of(form)))
            self.assertIs(alike(wood, again), True)
            self.assertEqual(answers(again, store), found)
            later = store + Store(shaped_lot(numbers, 3, ["k", "m", "n"], SHAPES))
            self.assertEqual(shrunk(form, store, later), [])
            self.assertEqual(shrunk(form, later, store), lost(wood, later, store))

    def test_maps(self):
        numbers = dice(202)
        for _ in range(200):
            lot = shaped_lot(numbers, numbers.randint(0, 4), ["?p", "?q", "?r", "k"], SHAPES)
            store = numbers.choice(STORES)
            found = slow_maps(lot, store.facts)
            self.assertEqual([maps(lot, store), list(each_map(lot, store)), count_maps(lot, store), first_map(lot, store)],
                             [found, found, len(found), found[0] if found else None])
            self.assertEqual(answers([Question([(None, lot)])], store), found)

    def test_answers_and_reasons(self):
        numbers = dice(203)
        for _ in range(200):
            wood, _, store, _ = some_case(numbers)
            found = answers(wood, store)
            for question in wood:
                for part in question.parts():
                    for known in maps(question.patterns(part), store)[:3]:
                        there = known in found
                        self.assertIs(is_answer(wood, store, known), there)
                        self.assertIs(tellers(wood, store, known) != [], there)
                        self.assertIs(why_not(wood, store, known) is None, there)
                        self.assertIn(fullest(question, store, known), found)
                        gone = clearing(wood, store, known)
                        if gone is not None:
                            self.assertIs(is_answer(wood, store - Store(gone), known), True)
                            self.assertEqual(gone == [], there)
                            self.assertIs(len(gone) == 1, in_the_way(wood, store, known) != [])
                        for node in question.next_nodes(part):
                            had = first_map(question.nodes[node][1], store, known) is not None
                            self.assertIs(lacking(question, store, known, node)[1] == [], had)
                        if there:
                            told_by = [facts for _, _, facts in support(wood, store, known)]
                            self.assertTrue(all(fact in facts for fact in needed(wood, store, known) for facts in told_by))


class AllStores(unittest.TestCase):
    def test_what_is_contained_has_its_answers_in_stores(self):
        numbers = dice(210)
        seen = {True: 0, False: 0}
        for _ in range(300):
            wood, others, store, rules = some_case(numbers)
            inside = contained(wood, others, rules=rules)
            seen[inside] += 1
            names = sorted({name for question in [*wood, *others] for name in question.variables()})
            if inside:
                self.assertTrue(all(known in answers(others, store) for known in answers(wood, store)))
                for shown in [[], names[:1], names[1:]]:
                    self.assertIs(part_of(wood, others, shown, rules=rules), True)
            self.assertIs(papers(wood, others, rules=rules) is not None, inside)
            self.assertIs(parting(wood, others, rules=rules) is None, inside)
            self.assertIs(contained(wood, [*others, *wood], rules=rules), True)
            self.assertIs(alike(wood, others, rules=rules), inside and contained(others, wood, rules=rules))
            self.assertIs(contained(wood, wood, rules=rules), True)
            # With more rules there are fewer stores.
            if contained(wood, others):
                self.assertIs(inside, True)
        self.assertGreater(min(seen.values()), 60)

    def test_contained_goes_on_from_wood_to_wood(self):
        numbers = dice(211)
        through = 0
        for _ in range(200):
            wood, others, _, rules = some_case(numbers)
            third = changed_wood(numbers, others)
            if contained(wood, others, rules=rules) and contained(others, third, rules=rules):
                through += 1
                self.assertIs(contained(wood, third, rules=rules), True)
        self.assertGreater(through, 20)

    def test_strikes_and_needless_nodes(self):
        numbers = dice(212)
        for _ in range(100):
            wood, _, _, rules = some_case(numbers)
            names = sorted({name for question in wood for name in question.variables()})
            for strike in strikes(wood):
                left = struck(wood, strike)
                self.assertIs(strike in needless(wood, rules=rules), alike(wood, left, rules=rules))
                if strike[0] == "node":
                    self.assertIs(strike[1:] in needless_nodes(wood, names, rules=rules),
                                  part_of(wood, left, names, rules=rules))
            for tree, part in never_answers(wood, rules=rules):
                question = wood[tree]
                for store in numbers.sample(STORES, 4):
                    if keeps(store, rules):
                        self.assertEqual(by_part(question, store)[part], [])
            for question in wood:
                self.assertEqual(always_had(tightened(question, rules=rules), rules=rules), [])

    def test_what_is_shown(self):
        numbers = dice(213)
        for _ in range(200):
            wood, others, store, rules = some_case(numbers)
            shown = numbers.sample(["?p", "?q", "?r"], 2)
            self.assertEqual(shown_answers(wood, store, shown),
                             in_order([only_keys(known, shown) for known in answers(wood, store)]))
            if part_of(wood, others, shown, rules=rules):
                more = shown_answers(others, store, shown)
                for known in shown_answers(wood, store, shown):
                    self.assertTrue(any(is_above(other, known) for other in more))
            self.assertIs(ways(wood, others, shown, rules=rules) is None,
                          unmet(wood, others, shown, rules=rules) is not None)

    def test_closed_lots_are_stores(self):
        numbers = dice(214)
        for _ in range(200):
            lot = shaped_lot(numbers, numbers.randint(0, 4), ["?p", "?q", "k", "m"], SHAPES)
            rules = some_rules(numbers)
            try:
                patterns, terms = closed(lot, rules)
            except ValueError:
                self.assertEqual(spoil(lot, [], {}, rules=rules), ("lost", ("clash",)))
                self.assertIs(is_sure({"?x": "k"}, [], lot, rules=rules), True)
                continue
            store, names = store_of(patterns)
            self.assertIsNone(broken(store, rules))
            self.assertEqual(closed(store.facts, rules), (list(store.facts), {}))
            self.assertEqual(store, some_store(lot, rules))
            self.assertIs(is_possible(store, lot, rules), True)
            self.assertEqual(spoil(lot, [], {}, rules=rules), ("won", patterns, {}))
            self.assertEqual(sorted(terms), sorted({term for pattern in lot for term in pattern[1:] if term[0] == "?"}))
            self.assertTrue(all(term in names or term[0] != "?" for term in terms.values()))

    def test_lots_without_variables_are_stores(self):
        numbers = dice(215)
        for _ in range(200):
            wood, _, store, rules = some_case(numbers)
            lot = list(store.facts)
            found = sure_maps(wood, lot, rules=rules)
            mine = answers(wood, store)
            self.assertEqual(found, [known for known in mine
                                     if not any(known != other and is_above(other, known) for other in mine)])
            for known in mine:
                self.assertIsNotNone(why_sure(known, wood, lot, rules=rules))
                self.assertIsNone(against(known, wood, lot, rules=rules))


class LaterStores(unittest.TestCase):
    def test_settled_and_final(self):
        numbers = dice(220)
        final = 0
        for _ in range(200):
            wood, _, store, rules = some_case(numbers)
            later = numbers.choice([one for one in STORES if is_later(one, store, rules=rules)])
            for known in answers(wood, store)[:4]:
                stays = is_final(wood, store, known, rules=rules)
                final += stays
                self.assertIs(is_settled(wood, store, known, rules=rules), stays)
                self.assertIs(enough_tables(wood, store, known, rules=rules) == [[]], stays)
                self.assertIs(known in final_answers(wood, store, rules=rules), stays)
                self.assertIs(known in settled_answers(wood, store, rules=rules), stays)
                self.assertIs(undoing(wood, store, known, rules=rules) is None, stays)
                self.assertIs(unsettling(wood, store, known, rules=rules) is None, stays)
                if stays:
                    self.assertIs(is_final(wood, later, known, rules=rules), True)
                    self.assertIn(known, answers(wood, later))
                    paper = final_paper(wood, store, known, rules=rules)
                    self.assertIs(is_lost(paper, list(store.facts), wood, known, rules=rules), True)
                    self.assertIs(is_final_paper(paper, wood, store, known, rules=rules), True)
                for tables in enough_tables(wood, store, known, rules=rules):
                    self.assertIs(is_settled(wood, store, known, complete=tables, rules=rules), True)
                    if is_later(later, store, complete=tables, rules=rules):
                        self.assertIn(known, answers(wood, later))
                        self.assertIs(is_settled(wood, later, known, complete=tables, rules=rules), True)
            self.assertEqual(lost(wood, store, later), [])
        self.assertGreater(final, 60)

    def test_at_a_desk(self):
        numbers = dice(221)
        for _ in range(100):
            wood, _, store, rules = some_case(numbers)
            desk = Desk(store.facts, rules=rules)
            desk.name("wood", wood)
            final = final_answers(wood, store, rules=rules)
            facts = [fact for fact in numbers.choice(STORES) if fact not in store]
            if is_later(store + Store(facts), store, rules=rules):
                desk.put(facts)
                gone, come = desk.news("wood", 1)
                self.assertEqual((gone, come), changes(wood, store, desk.store))
                self.assertFalse([known for known in final if known in gone])
                desk.undo()
            for known in answers(wood, store)[:3]:
                facts = undoing(wood, store, known, rules=rules)
                if facts is not None:
                    self.assertNotIn(known, desk.supposed([], facts, "wood"))
                    with desk.trial():
                        desk.put(facts)
                        self.assertIn(known, desk.news("wood", 1)[0])
            self.assertEqual(desk.store, store)

    def test_always_final(self):
        numbers = dice(222)
        for _ in range(100):
            wood = some_wood(numbers)
            rules = [some_implication(numbers) for _ in range(numbers.randint(0, 3))]
            always = always_final(wood, rules=rules)
            self.assertIs(unsettled(wood, rules=rules) is None, always)
            for store in numbers.sample(STORES, 5):
                if always and keeps(store, rules):
                    self.assertEqual(final_answers(wood, store, rules=rules), answers(wood, store))


def results(wood, others, store, rules, tidy):
    """What many functions tell, with what is certain up to names and order only."""
    known = answers(wood, store)
    names = sorted({name for question in [*wood, *others] for name in question.variables()})
    lot = [(pattern[0], *pattern[1:]) for question in wood for pattern in question.patterns()]
    return [tidy(item) for item in [
        known, [by_part(question, store) for question in wood], changes(wood, store, Store()), shown_answers(wood, store, names),
        contained(wood, others, rules=rules), contained(others, wood, rules=rules), alike(wood, others, rules=rules),
        always_alone(wood, rules=rules), part_of(wood, others, names, rules=rules), part_of(wood, others, [], rules=rules),
        [always_had(question, rules=rules) for question in wood],
        [len(tightened(question, rules=rules)) for question in wood], final_answers(wood, store, rules=rules),
        settled_answers(wood, store, rules=rules), keeps(store, rules), never_count(wood, rules),
        [is_settled(wood, store, one, complete=[], rules=rules) for one in known],
        [[support(wood, store, one) and needed(wood, store, one), in_the_way(wood, store, one)] for one in known],
        len(needless(wood, rules=rules)), len(needless_nodes(wood, names, rules=rules)), possible(lot, rules)]]


def never_count(wood, rules):
    return len(never_answers(wood, rules=rules))


def possible(lot, rules):
    """How many patterns a closed lot has, or None if it cannot be closed."""
    try:
        return len(closed(lot, rules)[0])
    except ValueError:
        return None


class OtherNames(unittest.TestCase):
    def test_other_names_change_nothing_but_the_names(self):
        numbers = dice(230)
        for _ in range(120):
            case = some_case(numbers)
            plain = results(*case, lambda value: loosely(other_names(value)))
            self.assertEqual(results(*[other_names(value) for value in case], loosely), plain)

    def test_another_order_changes_nothing(self):
        numbers = dice(231)
        for _ in range(120):
            wood, others, store, rules = some_case(numbers)
            plain = results(wood, others, store, rules, loosely)
            facts, more = list(store.facts), [*rules]
            numbers.shuffle(facts)
            numbers.shuffle(more)
            turned = [Question([(parent, numbers.sample(lot, len(lot))) for parent, lot in question.nodes])
                      for question in wood]
            self.assertEqual(turned, wood)
            numbers.shuffle(turned)
            rest = numbers.sample(others, len(others))
            self.assertEqual(results(turned, rest, Store(facts), more, loosely), plain)

    def test_names_of_variables_in_rules_mean_nothing(self):
        numbers = dice(232)
        names = {"?p": "?x", "?q": "?p", "?u": "?q"}
        for _ in range(120):
            wood, others, store, rules = some_case(numbers)
            other = [rule if isinstance(rule, Key) else Rule(
                [tuple(names.get(term, term) for term in pattern) for pattern in rule.body],
                tuple(names.get(term, term) for term in rule.head)) for rule in rules]
            self.assertEqual(results(wood, others, store, other, loosely), results(wood, others, store, rules, loosely))


class ByTurns(unittest.TestCase):
    def test_objects_tell_the_same_again(self):
        # The same objects are asked with rules and without, for other woods and stores between.
        numbers = dice(240)
        cases = [some_case(numbers) for _ in range(25)]
        first = [results(*case, repr_of) for case in cases]
        for at in range(60):
            pick = numbers.randrange(len(cases))
            wood, others, store, rules = cases[pick]
            results(wood, others, Store(), [], repr_of)
            self.assertEqual(results(wood, others, store, rules, repr_of), first[pick], at)
        for (wood, others, store, rules), told_before in zip(cases, first):
            anew = [[Question(question.nodes) for question in several] for several in (wood, others)]
            again = [Key(rule.table, rule.size, rule.places) if isinstance(rule, Key) else Rule(rule.body, rule.head)
                     for rule in rules]
            self.assertEqual(results(*anew, Store(store.facts), again, repr_of), told_before)
            self.assertEqual(results(tuple(anew[0]), tuple(anew[1]), Store(store.facts), tuple(again), repr_of), told_before)


def repr_of(value):
    """A value as a text, the order of its parts included."""
    if isinstance(value, dict):
        return repr([(repr_of(key), repr_of(item)) for key, item in value.items()])
    if isinstance(value, (list, tuple)):
        return repr([repr_of(item) for item in value])
    return repr(value)


if __name__ == "__main__":
    unittest.main()
