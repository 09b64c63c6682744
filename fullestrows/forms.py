"""Forms: lots joined by and, or and opt, what they mean in a store, and the woods that mean the same."""

from fullestrows.errors import BadPattern, BadText, Loose, OrBelow
from fullestrows.facts import is_pattern, pattern_text, read_pattern, variables_of
from fullestrows.joins import joint, summed
from fullestrows.matching import each_map, few_maps, in_order
from fullestrows.questions import Question
from fullestrows.tables import partners, picked

SIGNS_READ = ("&", "|", "opt")
MOST_OPEN = 20


class Form:
    """A lot, or two forms with a sign; it never changes."""

    def __init__(self, sign, halves, wanted):
        self._sign = sign
        self._halves = halves
        self._wanted = wanted

    @classmethod
    def lot(cls, patterns):
        """The form of a lot."""
        for value in patterns:
            if not is_pattern(value):
                raise BadPattern(value)
        return cls("lot", (), tuple(sorted(set(patterns))))

    @property
    def sign(self):
        """The sign: lot, &, | or opt."""
        return self._sign

    @property
    def halves(self):
        """The tuple of the two forms; it is empty for a lot."""
        return self._halves

    @property
    def wanted(self):
        """The list of the patterns of a lot; it is empty for the other forms."""
        return list(self._wanted)

    def __and__(self, other):
        return Form("&", (self, other), ())

    def __or__(self, other):
        return Form("|", (self, other), ())

    def opt(self, other):
        """The form of this form and, as far as possible, another one."""
        return Form("opt", (self, other), ())

    def __eq__(self, other):
        return (isinstance(other, Form) and self._sign == other._sign
                and self._halves == other._halves and self._wanted == other._wanted)

    def variables(self):
        """The ascending list of all variables in the form."""
        names = [name for half in self._halves for name in half.variables()]
        return sorted(set([*names, *variables_of(self._wanted)]))

    def text(self):
        """The text of the form."""
        if self._sign == "lot":
            words = " ".join([pattern_text(pattern) for pattern in self._wanted])
            return "{" + words + "}"
        one, other = self._halves
        return f"({one.text()} {self._sign} {other.text()})"

    @classmethod
    def read(cls, text):
        """The form with a text."""
        form, end = form_from(text, 0, 0)
        if end < len(text):
            raise BadText()
        return form


def form_from(text, at, depth):
    """The form whose text begins at a place, and the place behind it; depth tells the open parentheses."""
    if text[at:at + 1] == "{":
        return lot_from(text, at)
    if text[at:at + 1] != "(" or depth == MOST_OPEN:
        raise BadText()
    one, behind = form_from(text, at + 1, depth + 1)
    sign = sign_from(text, behind)
    other, end = form_from(text, behind + len(sign) + 2, depth + 1)
    if text[end:end + 1] != ")":
        raise BadText()
    return Form(sign, (one, other), ()), end + 1


def sign_from(text, at):
    """The sign that stands between spaces at a place."""
    for sign in SIGNS_READ:
        if text[at:at + len(sign) + 2] == f" {sign} ":
            return sign
    raise BadText()


def lot_from(text, at):
    """The form of the lot whose text begins at a place, and the place behind it."""
    inner = text[at + 1:].partition("}")[0]
    patterns = [read_pattern(word) for word in inner.split(" ")] if inner else []
    if None in patterns:
        raise BadText()
    form = Form.lot(patterns)
    whole = form.text()
    # The order of the patterns and the closing brace are as they should be only if the way back says so.
    if text[at:at + len(whole)] != whole:
        raise BadText()
    return form, at + len(whole)


def add_rows(found, names, rows):
    """Puts the rows for some names, if there are any, to those that are there already."""
    if rows:
        held = found.setdefault(names, {})
        for row in rows:
            held[row] = True


def starts_for(lot, near):
    """Maps such that each map for a lot that agrees with a map that is near is above one of them."""
    found = {}
    for names, rows in near.items():
        shared = [name for name in variables_of(lot) if name in names]
        if not shared:
            return [{}]
        places = [names.index(name) for name in shared]
        add_rows(found, tuple(shared), [picked(row, places) for row in rows])
    return as_maps(found)


def told_by_lot(lot, store, near):
    """The maps that fit a lot, as told_by gives them."""
    names = tuple(variables_of(lot))
    several = few_maps(lot, store.groups(), {})
    if several is None:
        several = [known for start in starts_for(lot, near) for known in each_map(lot, store, start)]
    found = {}
    add_rows(found, names, [tuple([known[name] for name in names]) for known in several])
    return found


def unions(one, other):
    """All unions of maps that agree, as told_by gives them."""
    found = {}
    for names, rows in one.items():
        for others, more in other.items():
            both = joint((names, rows), (others, more))
            ordered, together = summed(both, sorted(both[0]))
            add_rows(found, ordered, together)
    return found


def alone(one, other):
    """The maps that agree with no map of the others, as told_by gives them."""
    found = {}
    for names, rows in one.items():
        met = {row: True for others, more in other.items() for row in partners((names, rows), (others, more))}
        add_rows(found, names, [row for row in rows if row not in met])
    return found


def merged(one, other):
    """The maps of both, as told_by gives them."""
    found = {}
    for told in (one, other):
        for names, rows in told.items():
            add_rows(found, names, rows)
    return found


def spread(form):
    """The forms that are joined by and, one after another."""
    if form.sign != "&":
        return [form]
    return [part for half in form.halves for part in spread(half)]


def told_together(form, store, near):
    """The maps of forms that are joined by and, as told_by gives them."""
    parts = spread(form)
    # One lot of all patterns means the same as the lots joined, and no way that fits one lot only is gone.
    lot = [pattern for part in parts for pattern in part.wanted]
    found = told_by_lot(lot, store, near)
    for part in parts:
        if part.sign != "lot":
            found = unions(found, told_by(part, store, found if lot else near))
    return found


def told_by(form, store, near):
    """The meaning of a form: a dict from ascending tuples of variables to the rows of their constants.

    The rows are the keys of a dict, and no tuple of variables is there without rows. Maps that agree with
    no map of near, which is such a dict, may be left out, for a lot alone can have far more maps than are asked for.
    """
    if form.sign in ("lot", "&"):
        return told_together(form, store, near)
    one, other = form.halves
    first = told_by(one, store, near)
    if form.sign == "|":
        return merged(first, told_by(other, store, near))
    second = told_by(other, store, first)
    return merged(unions(first, second), alone(first, second))


def told_in(form, store):
    """The whole meaning of a form, as told_by gives it; the map without keys agrees with all maps."""
    return told_by(form, store, {(): {(): True}})


def as_maps(told):
    """The ascending list of the maps that told_by gives."""
    return in_order([dict(zip(names, row)) for names, rows in told.items() for row in rows])


def meaning(form, store):
    """The ascending list of the maps of the meaning of a form in a store, each once."""
    return as_maps(told_in(form, store))


def has_or(form):
    """Whether a form contains an or."""
    return form.sign == "|" or any([has_or(half) for half in form.halves])


def has_or_below(form):
    """Whether somewhere in a form the second form of an opt contains an or."""
    if form.sign == "opt" and has_or(form.halves[1]):
        return True
    return any([has_or_below(half) for half in form.halves])


def arms_of(form):
    """The arms of a form without an or below an opt."""
    if form.sign == "lot":
        return [form]
    one, other = form.halves
    if form.sign == "opt":
        return [arm.opt(other) for arm in arms_of(one)]
    if form.sign == "|":
        return [*arms_of(one), *arms_of(other)]
    others = arms_of(other)
    return [arm & more for arm in arms_of(one) for more in others]


def arms(form):
    """The forms without an or whose meanings together are the meaning of a form."""
    if has_or_below(form):
        raise OrBelow()
    return arms_of(form)


def loose_in(form, outside):
    """The variables that make an arm loose; those that occur outside of the form are told."""
    if form.sign == "lot":
        return []
    one, other = form.halves
    first = one.variables()
    second = other.variables()
    found = []
    if form.sign == "opt":
        found = [name for name in second if name in outside and name not in first]
    return [*found, *loose_in(one, [*outside, *second]), *loose_in(other, [*outside, *first])]


def loose(form):
    """The first variable of an optional form that occurs outside without being in the first form, or None."""
    return min([name for arm in arms(form) for name in loose_in(arm, [])], default=None)


def tree_of(arm):
    """The tree of an arm: a tuple (patterns, trees beneath); its nodes need not have new variables yet."""
    if arm.sign == "lot":
        return arm.wanted, []
    lot, beneath = tree_of(arm.halves[0])
    if arm.sign == "opt":
        return lot, [*beneath, tree_of(arm.halves[1])]
    more, others = tree_of(arm.halves[1])
    return [*lot, *more], [*beneath, *others]


def sorted_out(trees, names):
    """The trees beneath a node with some variables, in which each tree has a new variable at its top.

    A top without one decides only whether what is beneath it can be had, so it is put into that.
    """
    found = []
    for lot, beneath in trees:
        if any([name not in names for name in variables_of(lot)]):
            found.append((lot, beneath))
        else:
            lower = [([*lot, *more], others) for more, others in beneath]
            found.extend(sorted_out(lower, names))
    return found


def add_nodes(nodes, parent, tree):
    """Puts a tree to some nodes, beneath a parent."""
    lot, beneath = tree
    here = len(nodes)
    nodes.append((parent, lot))
    for lower in sorted_out(beneath, variables_of(lot)):
        add_nodes(nodes, here, lower)


def wood_of(form):
    """A wood with a question for each arm of a form, whose answers are the meaning of the arm."""
    wood = []
    name = loose(form)
    if name is not None:
        raise Loose(name)
    for arm in arms(form):
        nodes = []
        add_nodes(nodes, None, tree_of(arm))
        wood.append(Question(nodes))
    return wood


def form_beneath(question, node):
    """The form of a node of a question and of all that is beneath it."""
    form = Form.lot(question.lot_at(node))
    for child in question.children(node):
        form = form.opt(form_beneath(question, child))
    return form


def form_of(wood):
    """A form whose meaning is the answers of a wood with at least one question."""
    form = form_beneath(wood[0], 0)
    for question in wood[1:]:
        form = form | form_beneath(question, 0)
    return form


def below_some(names, later):
    """A dict of the rows for some variables that are below some row of a meaning."""
    found = {}
    for others, rows in later.items():
        if all([name in others for name in names]):
            places = [others.index(name) for name in names]
            for row in rows:
                found[picked(row, places)] = True
    return found


def shrunk(form, store, later):
    """The ascending list of the maps of a form in one store above which there is none in another store."""
    others = told_in(form, later)
    left = {}
    for names, rows in told_in(form, store).items():
        held = below_some(names, others)
        left[names] = [row for row in rows if row not in held]
    return as_maps(left)
