"""Whether each answer of one wood is an answer of another one in all stores that keep some rules."""

from fullestrows.answers import is_answer
from fullestrows.cases import constants_in, has_places, places_in, shown_store
from fullestrows.errors import Clash
from fullestrows.games import Play, Position, is_lost, opening, play_of, seats, spoil, win_from
from fullestrows.grounds import course_of, ground_of, terms_at
from fullestrows.rules import book_of, keeps


def same_terms(question, part):
    """The dict that gives to each variable of a part this variable itself."""
    return {name: name for name in question.variables(part)}


def lots_beneath(question, part):
    """The lots of the next nodes of a part."""
    return [question.lot_at(node) for node in question.beneath(part)]


def win_at(question, part, others, book):
    """The position in which the spoiler has won the play of a part against a wood, or None."""
    ground = ground_of(course_of(question, book), part)
    if ground is None:
        return None
    names = question.place_of(part).owned
    goals = [lead for _, lead in question.leads_beneath(part)]
    return win_from(Play(others, seats(others, names), goals, book), Position(ground, terms_at(ground, names)))


def first_win(wood, others, book):
    """The first position in which the spoiler has won the play of some part of a wood against another one, or None."""
    for question in wood:
        # A question that both woods have is contained without any play.
        if question not in others:
            for part in question.all_parts():
                won = win_at(question, part, others, book)
                if won is not None:
                    return won
    return None


def contained(wood, others, *, rules=()):
    """Whether a wood is contained in another one for some rules."""
    return first_win(wood, others, book_of(rules)) is None


def papers(wood, others, *, rules=()):
    """For each tuple (tree, part) of a wood a paper that shows that it is contained in another one, or None."""
    if not contained(wood, others, rules=rules):
        return None
    found = {}
    for tree, part in places_in(wood):
        question = wood[tree]
        end = spoil(question.lot_of(part), others, same_terms(question, part),
                    goals=lots_beneath(question, part), rules=rules)
        found[(tree, part)] = end[1]
    return found


def are_papers(value, wood, others, *, rules=()):
    """Whether any value is a dict of papers that show that a wood is contained in another one."""
    if not has_places(value, wood):
        return False
    for tree, part in places_in(wood):
        question = wood[tree]
        if not is_lost(value[(tree, part)], question.lot_of(part), others, same_terms(question, part),
                       goals=lots_beneath(question, part), rules=rules):
            return False
    return True


def parting(wood, others, *, rules=()):
    """A store that keeps the rules and an answer of a wood in it that is none of another wood, or None."""
    won = first_win(wood, others, book_of(rules))
    if won is None:
        return None
    return shown_store(won.ground.present, won.known, constants_in([*wood, *others], rules))


def parts_them(store, answer, wood, others, *, rules=()):
    """Whether a store keeps the rules, and a map is an answer of a wood in it, but not of another wood."""
    return keeps(store, rules) and is_answer(wood, store, answer) and not is_answer(others, store, answer)


def never_answers(wood, *, rules=()):
    """The list of the tuples (tree, part) of a wood by which no answer is told in any store that keeps the rules."""
    book = book_of(rules)
    return [(tree, part) for tree, part in places_in(wood) if win_at(wood[tree], part, [], book) is None]


def win_alone(lot, known, goals, rules):
    """The position in which the spoiler has won the play of a lot against the wood without questions, or None."""
    play = play_of([], known, goals, rules)
    try:
        return win_from(play, opening(lot, known, play.book))
    except Clash:
        return None


def win_for_both(one, other, rules):
    """A position that shows an answer which two questions tell at once, or None."""
    for part in one.parts():
        more = other.part_with(one.variables(part))
        if more is not None:
            lot = [*one.lot_of(part), *other.lot_of(more)]
            goals = [*lots_beneath(one, part), *lots_beneath(other, more)]
            won = win_alone(lot, same_terms(one, part), goals, rules)
            if won is not None:
                return won
    return None


def shared(wood, *, rules=()):
    """A store that keeps the rules, an answer in it, and two questions of a wood that both tell it, or None."""
    for first, one in enumerate(wood):
        for second, other in enumerate(wood):
            won = win_for_both(one, other, rules) if first < second else None
            if won is not None:
                store, answer = shown_store(won.ground.present, won.known, constants_in(wood, rules))
                return store, answer, first, second
    return None


def always_alone(wood, *, rules=()):
    """Whether no answer is told by two questions of a wood in any store that keeps the rules."""
    return shared(wood, rules=rules) is None
