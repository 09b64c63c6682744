"""Why a map is an answer of a wood in a store, why it is none, and what would make it one."""

from fullestrows.answers import all_there, is_answer, part_fitted, tellers
from fullestrows.cases import must_answer
from fullestrows.clearances import Clearance, cleared, is_hopeless
from fullestrows.errors import BadNode, Clash
from fullestrows.facts import Store, filled, is_whole, variables_of
from fullestrows.matching import first_map, joined
from fullestrows.rules import Key, closed, store_of


def facts_of(lot, known):
    """The ascending list of the patterns of a lot, filled by a map, each once."""
    return sorted({filled(pattern, known) for pattern in lot})


def missing_of(lot, store, known):
    """The ascending list of the patterns of a lot, filled by a map, that are not facts of a store, each once."""
    return [fact for fact in facts_of(lot, known) if fact not in store]


def support(wood, store, known):
    """The list of the tuples (tree, part, facts) by which a map is an answer of a wood in a store."""
    must_answer(wood, store, known)
    return [(tree, part, facts_of(wood[tree].lot_of(part), known)) for tree, part in tellers(wood, store, known)]


def fault(question, store, known):
    """Why a map is no answer of a question in a store, or None if it is one."""
    part = question.part_with(list(known))
    if part is None:
        return ("no part",)
    facts = missing_of(question.lot_of(part), store, known)
    if facts:
        return "lacks", part, facts
    for node in question.beneath(part):
        found = first_map(question.lot_at(node), store, known)
        if found is not None:
            return "fuller", part, node, found
    return None


def why_not(wood, store, known):
    """For each question of a wood why a map is no answer of it in a store, or None if it is an answer of the wood."""
    faults = [fault(question, store, known) for question in wood]
    return None if None in faults else faults


def is_answer_without(fact, wood, store, known):
    """Whether a map is an answer of a wood in a store without a fact."""
    return is_answer(wood, store - Store([fact]), known)


def needed(wood, store, known):
    """The ascending list of the facts without each of which an answer is none any more."""
    supports = [facts for _, _, facts in support(wood, store, known)]
    # What one question can do without, is not needed.
    common = [fact for fact in supports[0] if all([fact in facts for facts in supports])]
    return [fact for fact in common if not is_answer_without(fact, wood, store, known)]


def in_the_way(wood, store, known):
    """The ascending list of the facts without each of which a map is an answer; it is none with them."""
    faults = why_not(wood, store, known)
    if faults is None:
        return []
    # To take out a fact helps a question only if the fuller map that was found needs it.
    used = [fact for question, told in zip(wood, faults) if told[0] == "fuller"
            for fact in facts_of(question.lot_at(told[2]), told[3])]
    return [fact for fact in sorted(set(used)) if is_answer_without(fact, wood, store, known)]


def clearing(wood, store, known):
    """A shortest ascending list of facts without which a map is an answer of a wood in a store, or None."""
    tasks = []
    for question in wood:
        part = question.part_with(list(known))
        if part is not None and all_there(question.lot_of(part), store, known):
            tasks.append(Clearance(question, part, store, known))
    tasks = [task for task in tasks if not is_hopeless(task)]
    for most in range(len(store) + 1):
        for task in tasks:
            gone = cleared(task, [], [], most)
            if gone is not None:
                return [store.facts[at] for at in sorted(gone)]
    return None


def groups_with(groups, pattern):
    """All ways to put a pattern to some groups: as one of its own, or to one with which it may become the same."""
    alike = [at for at, group in enumerate(groups)
             if group[0][0] == pattern[0] and len(group[0]) == len(pattern)]
    return [[*groups, [pattern]], *[[*groups[:at], [*groups[at], pattern], *groups[at + 1:]] for at in alike]]


def groupings(lot):
    """All tuples (aside, groups) of the patterns of a lot that are put aside and of the others in groups, few ahead."""
    found = [([], [])]
    for pattern in lot:
        put_aside = [([*aside, pattern], groups) for aside, groups in found]
        grouped = [(aside, more) for aside, groups in found for more in groups_with(groups, pattern)]
        found = [*put_aside, *grouped]
    return sorted(found, key=lambda pair: len(pair[1]))


def terms_of_groups(groups):
    """What becomes of the variables if all patterns of each group become the same; it raises Clash if they cannot.

    A group is looked at as a table of its own, with a key by which all its facts are the same.
    """
    lot = []
    keys = []
    for number, group in enumerate(groups):
        table = f"group{number}"
        lot.extend([(table, *pattern[1:]) for pattern in group])
        if len(group[0]) > 1:
            keys.append(Key(table, len(group[0]) - 1, []))
    return closed(lot, keys)[1]


def filling(lot, store, aside, groups):
    """A dict for the variables of a lot with which what is put aside is there and each group is one fact, or None."""
    try:
        terms = terms_of_groups(groups)
    except Clash:
        return None
    found = first_map([filled(pattern, terms) for pattern in aside], store)
    if found is None:
        return None
    same = {name: terms.get(name, name) for name in variables_of(lot)}
    there = {name: found.get(term, term) for name, term in same.items()}
    # The constants of variables that are left over mean nothing.
    _, new = store_of([filled(pattern, there) for pattern in lot], store.constants())
    return {name: new.get(term, term) for name, term in there.items()}


def lacking(question, store, known, node):
    """A map for a next node of a part with which as few facts as can be are not there, and these facts."""
    part = part_fitted(question, store, known)
    if not is_whole(node) or node not in question.beneath(part):
        raise BadNode(node)
    lot = facts_of(question.lot_at(node), known)
    found = None
    # With each pattern in a group of its own there always is a filling.
    for aside, groups in groupings(lot):
        if found is None:
            found = filling(lot, store, aside, groups)
    return joined(known, found), missing_of(lot, store, found)
