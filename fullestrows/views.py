"""What is left of the answers of a question where not all of their variables, or not all terms, are to be seen.

The facts are in groups by shape; their terms may also be variables, which stand for unknown constants. What is
left of a map are its pairs of a shown variable and a constant, in ascending order. So much may be left out that
it would be too much to go through all answers: what is beneath a node depends on nothing but the terms of those
variables that the node has in common with its parent, and it is looked at once for these.
"""

from fullestrows.facts import is_free, variables_of
from fullestrows.joins import ways_to
from fullestrows.rows import MOST_ROWS, small_rows
from fullestrows.tables import picked, ready, tables_for


class View:
    """A question over some facts, of which only some variables are shown."""

    def __init__(self, question, shapes, shown):
        self.question = question
        self.shapes = shapes
        self.shown = {name: True for name in shown}
        self.seen = {}
        self.asked = [wanted_at(question, node, self.shown) for node in range(len(question))]


def wanted_at(question, node, shown):
    """The ascending list of the new variables of a node that are shown or that a node right beneath it has."""
    used = {name: True for child in question.children(node) for name in variables_of(question.lot_at(child))}
    return [name for name in question.new_variables(node) if name in shown or name in used]


def rows_at(lot, shapes, known, wanted):
    """The rows of terms for some variables, each once, with which a lot is led to the facts above a dict."""
    small = small_rows(lot, shapes, known, MOST_ROWS)
    if small is None:
        tables = ready(tables_for(lot, shapes, known))
        return [] if tables is None else list(ways_to(tables, wanted))
    places, rows = small
    if not rows:
        return []
    spots = [places[name] for name in wanted]
    return list({picked(row, spots): True for row in rows})


def all_joined(several):
    """All ways to put one item out of each of some lists of pairs together."""
    found = [()]
    for more in several:
        found = [(*one, *other) for one in found for other in more]
    return found


def left_beneath(view, node, known):
    """What is left of all ways to have a node and as much as can be beneath it, for a dict for its parent.

    Each one is an ascending tuple of pairs. There is none if the node cannot be had.
    """
    question = view.question
    lot = question.lot_at(node)
    held = {name: known[name] for name in variables_of(lot) if name in known}
    place = (node, tuple(held.values()))
    if place not in view.seen:
        found = {}
        for row in rows_at(lot, view.shapes, held, view.asked[node]):
            new = dict(zip(view.asked[node], row))
            mine = [(name, term) for name, term in new.items() if name in view.shown and not is_free(term)]
            lower = [left_beneath(view, child, {**held, **new}) for child in question.children(node)]
            for pairs in all_joined([more for more in lower if more]):
                found[tuple(sorted([*mine, *pairs]))] = True
        view.seen[place] = list(found)
    return view.seen[place]


def left_of_answers(question, shapes, shown):
    """What is left of the answers of a question: tuples of pairs, each once."""
    return left_beneath(View(question, shapes, shown), 0, {})
