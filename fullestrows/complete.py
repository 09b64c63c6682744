"""Which answers stay answers if some tables are complete, and which tables would be enough for this."""

from fullestrows.answers import answers, is_answer
from fullestrows.cases import constants_in, has_just, must_fit, must_keep, shown_store
from fullestrows.errors import Clash
from fullestrows.facts import Store, is_whole, variables_of
from fullestrows.games import is_seat, play_of, put_in, store_position, waiting_seat, waiting_seats, with_added
from fullestrows.matching import maps
from fullestrows.questions import is_list
from fullestrows.rules import Key, Rule, keeps
from fullestrows.search import is_inside


class Setting:
    """What stays the same in a play of complete tables."""

    def __init__(self, wood, store, known, complete, rules):
        self.play = play_of(wood, known, (), rules)
        self.base = store
        self.options = [None, *store.constants()]
        self.complete = {table: True for table in complete}
        self.has_keys = any([isinstance(rule, Key) for rule in rules])
        self.adds = any([isinstance(rule, Rule) and rule.head[0] in self.complete for rule in rules])


def new_in(lot, known):
    """The ascending list of the variables of a lot that are not keys of a dict."""
    return [name for name in variables_of(lot) if name not in known]


def all_chosen(names, options):
    """All dicts from some names to options, in the order in which the last name changes first."""
    found = [{}]
    for name in names:
        found = [{**chosen, name: option} for chosen in found for option in options]
    return found


def oversteps(setting, patterns):
    """Whether some pattern of a complete table is no fact of the store."""
    held = setting.base.held()
    for pattern in patterns:
        if pattern[0] in setting.complete and pattern not in held:
            return True
    return False


def after_choice(setting, position, lot, chosen):
    """The position after a choice, or None if it is barred."""
    terms = {name: chosen[name] for name in chosen if chosen[name] is not None}
    added = put_in(setting.play, position.ground.present, {**terms, **position.known}, lot)
    # What only a key can change is looked at ahead, as most choices are barred by it.
    if oversteps(setting, [pattern for pattern in added if not setting.has_keys or not variables_of([pattern])]):
        return None
    try:
        after = with_added(position, added, setting.play.book)
    except Clash:
        return None
    return None if oversteps(setting, after.ground.present) else after


def useful_choices(setting, position, lot):
    """Choices for the new variables of a lot, among which there is one that wins if there is any.

    A pattern of a complete table has to be a fact. For a variable of other patterns alone a fresh variable is as
    good as any constant, as long as no implication adds facts to a complete table.
    """
    asked = [pattern for pattern in lot if pattern[0] in setting.complete]
    options = setting.options if setting.adds else [None]
    found = []
    for known in maps(asked, setting.base, position.known):
        found.extend([{**known, **chosen} for chosen in all_chosen(new_in(lot, known), options)])
    return found


def is_blocked(setting, position, seat):
    """Whether each choice for a candidate is barred."""
    for _, lead in seat.nexts:
        for chosen in useful_choices(setting, position, lead.asks):
            if after_choice(setting, position, lead.asks, chosen) is not None:
                return False
    return True


def won_from(setting, position):
    """The position in which the spoiler has won a play that goes on from a position, or None.

    If a store shows that the spoiler can win, the choices that it shows never block a candidate.
    """
    waiting = waiting_seats(setting.play, position)
    for seat in waiting:
        if is_blocked(setting, position, seat):
            return None
    if not waiting:
        return position
    for _, lead in waiting[0].nexts:
        for chosen in useful_choices(setting, position, lead.asks):
            after = after_choice(setting, position, lead.asks, chosen)
            won = None if after is None else won_from(setting, after)
            if won is not None:
                return won
    return None


def win_against(wood, store, known, complete, rules):
    """The position in which the spoiler has won the play of an answer, or None if the answer is settled."""
    setting = Setting(wood, store, known, complete, rules)
    return won_from(setting, store_position(store, known))


def paper_from(setting, position):
    """A paper for a play that goes on from a position and that the spoiler loses."""
    seat = waiting_seat(setting.play, position)
    if not seat.nexts:
        return "stuck", seat.tree, seat.part
    rows = []
    for node, lead in seat.nexts:
        for chosen in all_chosen(new_in(lead.asks, position.known), setting.options):
            after = after_choice(setting, position, lead.asks, chosen)
            rows.append((node, chosen, ("barred",) if after is None else paper_from(setting, after)))
    return "put", seat.tree, seat.part, rows


def choice_told(row, setting, position, seat):
    """The node and the tuple of what is chosen that a row of a paper, which may be any value, tells, or None."""
    if not isinstance(row, tuple) or len(row) != 3 or not is_whole(row[0]):
        return None
    for node, lead in seat.nexts:
        names = new_in(lead.asks, position.known)
        if row[0] == node and has_just(row[1], names):
            values = [row[1][name] for name in names]
            return (node, tuple(values)) if all([value in setting.options for value in values]) else None
    return None


def shows_rows(rows, setting, position, seat):
    """Whether the rows of a paper tell, in any order, a paper for each choice."""
    if not is_list(rows):
        return False
    told = {}
    for row in rows:
        choice = choice_told(row, setting, position, seat)
        if choice is None or choice in told:
            return False
        told[choice] = row[2]
    for node, lead in seat.nexts:
        for chosen in all_chosen(new_in(lead.asks, position.known), setting.options):
            choice = (node, tuple(chosen.values()))
            if choice not in told or not is_paper_from(told[choice], setting,
                                                       after_choice(setting, position, lead.asks, chosen)):
                return False
    return True


def is_paper_from(paper, setting, position):
    """Whether any value is a paper for a play that goes on from a position, which is None where it is barred."""
    if position is None:
        return paper == ("barred",)
    seat = waiting_seat(setting.play, position)
    if seat is None or not isinstance(paper, tuple) or not is_seat(paper[1:3], seat):
        return False
    if not seat.nexts:
        return paper[0] == "stuck" and len(paper) == 3
    return paper[0] == "put" and len(paper) == 4 and shows_rows(paper[3], setting, position, seat)


def is_later(later, store, *, complete=(), rules=()):
    """Whether a store has all facts of another one, keeps the rules, and has no more facts of complete tables."""
    return store.within(later) and keeps(later, rules) and later.only(complete).within(store)


def is_settled(wood, store, known, *, complete=(), rules=()):
    """Whether an answer stays an answer in all later stores."""
    must_fit(wood, store, known, rules)
    return win_against(wood, store, known, complete, rules) is None


def settled_paper(wood, store, known, *, complete=(), rules=()):
    """A paper that shows that an answer is settled, or None."""
    must_fit(wood, store, known, rules)
    setting = Setting(wood, store, known, complete, rules)
    position = store_position(store, known)
    return paper_from(setting, position) if won_from(setting, position) is None else None


def is_settled_paper(value, wood, store, known, *, complete=(), rules=()):
    """Whether any value is a paper that shows that an answer is settled."""
    must_fit(wood, store, known, rules)
    setting = Setting(wood, store, known, complete, rules)
    return is_paper_from(value, setting, store_position(store, known))


def unsettling(wood, store, known, *, complete=(), rules=()):
    """The ascending list of some facts with which a store is a later one without an answer, or None."""
    must_fit(wood, store, known, rules)
    won = win_against(wood, store, known, complete, rules)
    if won is None:
        return None
    later, _ = shown_store(won.ground.present, {}, constants_in(wood, rules))
    return [fact for fact in later.facts if fact not in store]


def unsettles(facts, wood, store, known, *, complete=(), rules=()):
    """Whether a store with some facts is a later one in which an answer is none any more."""
    must_fit(wood, store, known, rules)
    later = store + Store(facts)
    return is_later(later, store, complete=complete, rules=rules) and not is_answer(wood, later, known)


def settled_answers(wood, store, *, complete=(), rules=()):
    """The ascending list of the settled answers of a wood in a store."""
    must_keep(store, rules)
    return [known for known in answers(wood, store) if win_against(wood, store, known, complete, rules) is None]


def tables_of(wood):
    """The ascending list of the tables of the patterns of a wood, each once."""
    return sorted({pattern[0] for question in wood for pattern in question.patterns()})


def all_lists(tables):
    """All lists that can be made of some tables in their order, shorter ones first and then in ascending order."""
    found = [[]]
    for table in tables:
        found = [*found, *[[*some, table] for some in found]]
    return sorted(found, key=lambda some: (len(some), some))


def enough_tables(wood, store, known, *, rules=()):
    """The lists of tables with which an answer is settled if they are complete, and not with fewer of them."""
    must_fit(wood, store, known, rules)
    enough = []
    for tables in all_lists(tables_of(wood)):
        # If more tables are complete, what is settled stays settled.
        if not any([is_inside(fewer, tables) for fewer in enough]):
            if win_against(wood, store, known, tables, rules) is None:
                enough.append(tables)
    return enough
