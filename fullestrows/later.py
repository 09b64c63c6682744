"""Which answers stay answers whatever facts are added, as long as the rules are kept."""

from fullestrows.answers import answers, is_answer
from fullestrows.cases import constants_in, must_fit, must_keep, places_in, shown_store
from fullestrows.containment import win_at
from fullestrows.facts import Store
from fullestrows.games import is_lost, play_of, spoil, store_position, win_from
from fullestrows.rules import book_of, keeps


def undoing_win(wood, store, known, rules):
    """The position in which the spoiler has won the play of an answer, or None if the answer is final."""
    return win_from(play_of(wood, known, (), rules), store_position(store, known))


def is_final(wood, store, known, *, rules=()):
    """Whether an answer stays an answer in all stores with more facts that keep the rules."""
    must_fit(wood, store, known, rules)
    return undoing_win(wood, store, known, rules) is None


def final_paper(wood, store, known, *, rules=()):
    """A paper that shows that an answer is final, or None."""
    must_fit(wood, store, known, rules)
    end = spoil(list(store.facts), wood, known, rules=rules)
    return end[1] if end[0] == "lost" else None


def is_final_paper(value, wood, store, known, *, rules=()):
    """Whether any value is a paper that shows that an answer is final."""
    must_fit(wood, store, known, rules)
    return is_lost(value, list(store.facts), wood, known, rules=rules)


def undoing(wood, store, known, *, rules=()):
    """The ascending list of some facts with which an answer is none any more, or None if it is final."""
    must_fit(wood, store, known, rules)
    won = undoing_win(wood, store, known, rules)
    if won is None:
        return None
    later, _ = shown_store(won.ground.present, {}, constants_in(wood, rules))
    return [fact for fact in later.facts if fact not in store]


def undoes(facts, wood, store, known, *, rules=()):
    """Whether a store together with some facts keeps the rules, and an answer is none any more there."""
    must_fit(wood, store, known, rules)
    later = store + Store(facts)
    return keeps(later, rules) and not is_answer(wood, later, known)


def final_answers(wood, store, *, rules=()):
    """The ascending list of the final answers of a wood in a store."""
    must_keep(store, rules)
    return [known for known in answers(wood, store) if undoing_win(wood, store, known, rules) is None]


def unsettled(wood, *, rules=()):
    """A store that keeps some implications, an answer in it that is not final, and facts that undo it, or None."""
    book = book_of(rules)
    for tree, part in places_in(wood):
        won = win_at(wood[tree], part, [], book)
        if won is not None:
            # Without keys nothing is made equal, so new constants are as good as variables for the play that follows.
            store, known = shown_store(won.ground.present, won.known, constants_in(wood, rules))
            facts = undoing(wood, store, known, rules=rules)
            if facts is not None:
                return store, known, facts
    return None


def always_final(wood, *, rules=()):
    """Whether all answers of a wood are final in each store that keeps some implications."""
    return unsettled(wood, rules=rules) is None
