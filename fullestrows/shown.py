"""Whether each answer of one wood is part of an answer of another one, if only some variables are shown."""

from fullestrows.answers import filled_up, has_above, is_answer
from fullestrows.cases import constants_in, has_places, leads_into, looks_like_way, shown_store
from fullestrows.errors import BadNode
from fullestrows.grounds import course_of, ground_of, terms_at
from fullestrows.leads import first_free_led, first_led, is_free_led, is_led, plain_held
from fullestrows.matching import only_keys
from fullestrows.rules import book_of, keeps
from fullestrows.views import left_of_answers


def shown_answers(wood, store, shown):
    """The ascending list of what is left of the answers of a wood in a store if only some variables are shown."""
    left = sorted({pairs for question in wood for pairs in left_of_answers(question, store.groups(), shown)})
    return [dict(pairs) for pairs in left]


class Show:
    """A question of which only some variables are shown: those that are new in each node, and its grounds."""

    def __init__(self, question, shown, book):
        self.course = course_of(question, book)
        self.asked = [[name for name in question.new_at(node) if name in shown] for node in range(len(question))]


def names_shown(show, part):
    """The tuple of the variables of a part that are shown."""
    return tuple([name for node in part for name in show.asked[node]])


def first_way(aim, ground, known):
    """The first dict above known by which an aim is met in a ground, or None."""
    if ground.moved:
        return first_led(aim.lead, ground, known)
    # The terms of all variables are these variables themselves.
    return first_free_led(aim.lead, ground, known) if plain_held(aim.lead, ground.present) else None


def way_in(show, part, others):
    """A way for a part of a question into another wood, or None."""
    ground = ground_of(show.course, part)
    if ground is None:
        return ("clash",)
    names = names_shown(show, part)
    known = terms_at(ground, names)
    for tree, other in enumerate(others):
        aim = other.aim_at(names)
        found = None if aim is None else first_way(aim, ground, known)
        if found is not None:
            return "way", tree, aim.part, found
    return None


def is_met(aim, ground, names):
    """Whether some dict to the terms of some variables and more meets an aim in a ground."""
    if ground.moved:
        return is_led(aim.lead, ground, terms_at(ground, names))
    return plain_held(aim.lead, ground.present) and is_free_led(aim.lead, ground, terms_at(ground, names))


def has_way(show, part, others):
    """Whether there is a way for a part of a question into another wood."""
    ground = ground_of(show.course, part)
    if ground is None:
        return True
    names = names_shown(show, part)
    for other in others:
        aim = other.aim_at(names)
        if aim is not None and is_met(aim, ground, names):
            return True
    return False


def first_unmet(wood, others, shown, book):
    """The first tuple (question, part) for which there is no way, or None."""
    for question in wood:
        # A question that both woods have is part of itself.
        if question not in others:
            show = Show(question, shown, book)
            for part in question.all_parts():
                # If nothing new is shown in the last node, there is the way of the part without it.
                if (part[-1] == 0 or show.asked[part[-1]]) and not has_way(show, part, others):
                    return question, part
    return None


def part_of(wood, others, shown, *, rules=()):
    """Whether a wood is part of another one for some rules and shown variables."""
    return first_unmet(wood, others, shown, book_of(rules)) is None


def ways(wood, others, shown, *, rules=()):
    """For each tuple (tree, part) of a wood a way into another one, or None if the wood is not part of it."""
    book = book_of(rules)
    found = {}
    for tree, question in enumerate(wood):
        show = Show(question, shown, book)
        for part in question.all_parts():
            way = way_in(show, part, others)
            if way is None:
                return None
            found[(tree, part)] = way
    return found


def has_form(value, others):
    """Whether any value has the form of a way into another wood."""
    if not isinstance(value, tuple):
        return False
    return value == ("clash",) or (value[:1] == ("way",) and looks_like_way(value[1:], others))


def is_way(value, show, part, others):
    """Whether a value that has the form of a way is one for a part of a question into another wood."""
    ground = ground_of(show.course, part)
    if ground is None or value[0] == "clash":
        return ground is None and value[0] == "clash"
    return leads_into(value[1:], ground.present, others, terms_at(ground, names_shown(show, part)))


def are_ways(value, wood, others, shown, *, rules=()):
    """Whether any value is a dict of ways that show that a wood is part of another one."""
    if not has_places(value, wood):
        return False
    # What has not even the form of a way is told before anything is closed.
    for place in value:
        if not has_form(value[place], others):
            return False
    book = book_of(rules)
    for tree, question in enumerate(wood):
        show = Show(question, shown, book)
        for part in question.all_parts():
            if not is_way(value[(tree, part)], show, part, others):
                return False
    return True


def unmet(wood, others, shown, *, rules=()):
    """A store that keeps the rules and an answer of a wood whose shown part is in none of another one, or None."""
    book = book_of(rules)
    found = first_unmet(wood, others, shown, book)
    if found is None:
        return None
    question, part = found
    ground = ground_of(course_of(question, book), part)
    terms = terms_at(ground, question.place_of(part).owned)
    store, known = shown_store(ground.present, terms, constants_in([*wood, *others], rules))
    return store, filled_up(question, part, store, known)


def is_unmet(store, answer, wood, others, shown, *, rules=()):
    """Whether a store keeps the rules, and a map is an answer there whose shown part is in none of another wood."""
    return (keeps(store, rules) and is_answer(wood, store, answer)
            and not has_above(others, store, only_keys(answer, shown)))


def without_node(question, node):
    """The question in which a node and all that is beneath it are left out."""
    if not question.is_number(node) or node == 0:
        raise BadNode(node)
    return question.without(node)


def needless_nodes(wood, shown, *, rules=()):
    """The ascending list of the tuples (tree, node) without which the wood has all that it shows."""
    found = []
    for tree, question in enumerate(wood):
        for node in range(1, len(question)):
            less = [*wood[:tree], question.without(node), *wood[tree + 1:]]
            if part_of(wood, less, shown, rules=rules):
                found.append((tree, node))
    return found
