import unittest
from unittest import mock

from fullestrows import forms
from fullestrows.answers import answers
from fullestrows.errors import BadPattern, BadText, Loose, OrBelow
from fullestrows.facts import Store
from fullestrows.forms import Form, arms, form_of, loose, meaning, shrunk, wood_of
from fullestrows.questions import Question
from values import ANY_VALUES, dice, names_in, shaped_lot, slow_answers, slow_maps, some_question, sorted_maps, told

SHAPES = (("a", 1), ("b", 2), ("b", 2), ("h", 0))
NAMES = ["?x", "?y", "?z", "?w"]


def form_with(text):
    """The form with a text in which a letter and variables, such as a:xy, stand for a lot of one pattern."""
    words = []
    for word in text.replace("(", "( ").replace(")", " )").split():
        if ":" in word:
            table, names = word.split(":")
            word = "{" + table + "(" + ",".join("?" + name for name in names) + ")}"
        words.append(word)
    return Form.read(" ".join(words).replace("( ", "(").replace(" )", ")"))


def unites(one, other):
    """Whether two maps agree, in the plainest way."""
    return all(one[name] == other[name] for name in set(one) & set(other))


def slow_meaning(form, facts):
    """The meaning of a form by the definition alone."""
    if form.sign == "lot":
        return slow_maps(form.wanted, facts)
    first, second = (slow_meaning(half, facts) for half in form.halves)
    if form.sign == "|":
        return sorted_maps([*first, *second])
    both = [{**one, **other} for one in first for other in second if unites(one, other)]
    if form.sign == "&":
        return sorted_maps(both)
    return sorted_maps([*both, *[one for one in first if not any(unites(one, other) for other in second)]])


def some_form(numbers, lots, signs=("&", "|", "opt", "opt"), names=NAMES):
    """A form of a number of lots."""
    if lots == 1:
        terms = [*numbers.sample(names, 2), numbers.choice([*names, "k"])]
        return Form.lot(shaped_lot(numbers, numbers.choice([0, 1, 1, 1, 2]), terms, SHAPES))
    left = numbers.randint(1, lots - 1)
    one, other = some_form(numbers, left, signs, names), some_form(numbers, lots - left, signs, names)
    sign = numbers.choice(signs)
    return one & other if sign == "&" else one | other if sign == "|" else one.opt(other)


def places(form, path=()):
    """All forms in a form, with the ways to them."""
    found = [(path, form)]
    for at, half in enumerate(form.halves):
        found += places(half, (*path, at))
    return found


def slow_loose(form):
    """The first loose variable of an arm, by the definition alone."""
    found = []
    for path, part in places(form):
        if part.sign == "opt":
            outside = [p for way, lot in places(form) if way[:len(path)] != path for p in lot.wanted]
            second = names_in([p for _, lot in places(part.halves[1]) for p in lot.wanted])
            first = names_in([p for _, lot in places(part.halves[0]) for p in lot.wanted])
            found += [name for name in second if name in names_in(outside) and name not in first]
    return min(found, default=None)


def has_or_below(form):
    """Whether a second form of an opt contains an or."""
    return any(part.sign == "opt" and any(lower.sign == "|" for _, lower in places(part.halves[1]))
               for _, part in places(form))


def some_store(numbers, most=8):
    """A store of some facts."""
    return Store(shaped_lot(numbers, numbers.randint(0, most), ["k", "l", "m"], SHAPES))


class Forms(unittest.TestCase):
    """Point 61."""

    def test_lot(self):
        form = Form.lot([("b", "?x"), ("a", "?y"), ("b", "?x")])
        self.assertEqual([form.sign, form.halves, form.wanted], ["lot", (), [("a", "?y"), ("b", "?x")]])
        self.assertEqual([Form.lot([]).wanted, Form.lot(()).variables()], [[], []])

    def test_signs(self):
        one, other = Form.lot([("a", "?x")]), Form.lot([("b", "?y")])
        for form, sign in [(one & other, "&"), (one | other, "|"), (one.opt(other), "opt")]:
            self.assertEqual([form.sign, form.halves, form.wanted], [sign, (one, other), []])
            self.assertIsInstance(form.halves, tuple)

    def test_bad_pattern(self):
        for value in [*ANY_VALUES, ["a", "?x"], ("a", "?X")]:
            if value == ("a", "b"):
                continue
            with self.subTest(value), self.assertRaises(BadPattern) as caught:
                Form.lot([("a", "?x"), value, 7])
            self.assertIs(caught.exception.value, value)

    def test_variables(self):
        form = form_with("((b:zy opt a:w) | (a:y & c:yu))")
        self.assertEqual(form.variables(), ["?u", "?w", "?y", "?z"])
        self.assertEqual(Form.lot([("a", "k", "?y", "?x"), ("b", "?x")]).variables(), ["?x", "?y"])

    def test_equality(self):
        one, other = Form.lot([("a", "?x"), ("b", "?y")]), Form.lot([("b", "?y")])
        self.assertTrue(one == Form.lot([("b", "?y"), ("a", "?x"), ("b", "?y")]))
        self.assertTrue(one & other == Form.lot(one.wanted) & Form.lot(other.wanted))
        different = [one, other, one & other, one | other, one.opt(other), other & one, one & one, Form.lot([]),
                     (one & other) & one, one & (other & one)]
        for at, form in enumerate(different):
            for place, more in enumerate(different):
                self.assertIs(form == more, at == place)

    def test_equal_to_nothing_else(self):
        form = Form.lot([("a", "?x")])
        for value in [*ANY_VALUES, form.text(), form.wanted, Store([("a",)]), Question([(None, [("a", "?x")])])]:
            self.assertIs(form == value, False)
            self.assertIs(value == form, False)

    def test_forms_never_change(self):
        wanted = [("b", "?x")]
        form = Form.lot(wanted)
        whole = form & Form.lot([("a", "?x")])
        wanted.append(("c",))
        for several in [form.wanted, form.variables(), whole.wanted, whole.variables(), arms(whole)]:
            several.clear()
        for more in [form | whole, form.opt(whole), whole & form]:
            self.assertEqual(len(more.halves), 2)
        self.assertEqual([form.text(), whole.text(), whole.variables()], ["{b(?x)}", "({b(?x)} & {a(?x)})", ["?x"]])
        with self.assertRaises(AttributeError):
            form.sign = "&"


class Meaning(unittest.TestCase):
    """Points 60 and 62."""

    def check(self, text, facts, wanted):
        form = form_with(text)
        self.assertEqual(told(meaning(form, Store(facts))), wanted)
        self.assertEqual(told(slow_meaning(form, facts)), wanted)

    def test_lot(self):
        self.check("b:xy", [("b", "k", "l"), ("b", "l")], [[("?x", "k"), ("?y", "l")]])
        self.check("{}", [], [[]])
        self.check("{a(k)}", [("a", "k")], [[]])
        self.check("{a(k)}", [("a", "l")], [])

    def test_and(self):
        facts = [("a", "k"), ("a", "l"), ("b", "k", "m"), ("b", "m", "m")]
        self.check("(a:x & b:xy)", facts, [[("?x", "k"), ("?y", "m")]])
        self.check("((a:x opt b:xy) & a:y)", facts, [[("?x", "l"), ("?y", "k")], [("?x", "l"), ("?y", "l")]])
        self.check("(a:x & {})", facts, [[("?x", "k")], [("?x", "l")]])
        self.check("((a:x | b:yx) & (b:xz | {a(k)}))", facts, [
            [("?x", "k")], [("?x", "k"), ("?z", "m")], [("?x", "l")], [("?x", "m"), ("?y", "k")],
            [("?x", "m"), ("?y", "k"), ("?z", "m")], [("?x", "m"), ("?y", "m")], [("?x", "m"), ("?y", "m"), ("?z",
                                                                                                             "m")]])

    def test_or(self):
        self.check("(a:x | b:xy)", [("a", "k"), ("b", "k", "l")], [[("?x", "k")], [("?x", "k"), ("?y", "l")]])
        self.check("(a:x | c:x)", [("a", "k"), ("c", "k")], [[("?x", "k")]])
        self.check("(a:x | {})", [("a", "k")], [[], [("?x", "k")]])

    def test_opt(self):
        facts = [("a", "k"), ("a", "l"), ("b", "k", "m"), ("b", "k", "n")]
        self.check("(a:x opt b:xy)", facts, [[("?x", "k"), ("?y", "m")], [("?x", "k"), ("?y", "n")], [("?x", "l")]])
        self.check("(a:x opt c:xy)", facts, [[("?x", "k")], [("?x", "l")]])
        self.check("(c:x opt a:x)", facts, [])
        self.check("({} opt a:x)", facts, [[("?x", "k")], [("?x", "l")]])
        self.check("({} opt c:x)", facts, [[]])
        # Maps without variables in common agree.
        self.check("(b:xy opt c:z)", [("b", "k", "l"), ("c", "m")], [[("?x", "k"), ("?y", "l"), ("?z", "m")]])
        # One map of the second form that agrees is enough to take the bare one away.
        self.check("(a:x opt (b:xy | {h()}))", [("a", "k"), ("a", "l"), ("b", "k", "m"), ("h",)],
                   [[("?x", "k")], [("?x", "k"), ("?y", "m")], [("?x", "l")]])

    def test_loose_forms(self):
        self.check("((a:x opt b:xy) & a:y)", [("a", "k"), ("b", "k", "m")], [])
        self.check("((a:x opt b:y) & c:xy)", [("a", "m"), ("c", "m", "k")], [[("?x", "m"), ("?y", "k")]])
        self.check("((a:x opt b:y) & c:xy)", [("a", "m"), ("b", "n"), ("c", "m", "k")], [])
        self.check("((a:x opt b:y) opt c:y)", [("a", "k"), ("c", "l")], [[("?x", "k"), ("?y", "l")]])

    def test_forms_that_mean_nothing(self):
        # What no map is in must not count as a map that agrees.
        self.check("((a:w opt a:x) opt (b:yy opt (b:xx | (a:y & b:zz))))", [("a", "k"), ("b", "l", "l"), ("b", "m",
                                                                                                          "m")],
                   [[("?w", "k"), ("?x", "k")]])
        self.check("(a:x opt (b:yy & c:y))", [("a", "k"), ("b", "l", "l"), ("c", "k")], [[("?x", "k")]])
        self.check("(a:x opt ((a:x & c:y) & b:yy))", [("a", "k"), ("b", "l", "l"), ("c", "k")], [[("?x", "k")]])

    def test_by_definition(self):
        numbers = dice(60)
        many = {}
        for _ in range(1500):
            form = some_form(numbers, numbers.randint(1, 6))
            store = some_store(numbers)
            found = slow_meaning(form, store.facts)
            self.assertEqual(told(meaning(form, store)), told(found), form.text())
            many[form.sign] = many.get(form.sign, 0) + len(found)
        self.assertGreater(min(many.values()), 100)

    def test_lots_that_fit_only_together(self):
        # Each half alone has 40 ** 4 maps.
        loops = [("b", f"k{at}", f"l{at}") for at in range(40)]
        one = Form.lot([("b", f"?x{at}", f"?y{at}") for at in range(4)])
        other = Form.lot([("a", f"?x{at}") for at in range(4)])
        store = Store([*loops, ("a", "k3")])
        self.assertEqual(meaning(one & other, store), [{f"?{side}{at}": f"{value}3" for side, value in
                                                        [("x", "k"), ("y", "l")] for at in range(4)}])

    def test_second_form_with_many_maps(self):
        # Alone, the second form has 50 ** 5 maps, but only one of them agrees with each map of the first form.
        store = Store([*[("b", f"k{at}", f"l{at}") for at in range(50)], ("b", "l7", "m"), ("a", "k7"), ("a", "k8")])
        names = "uvwxy"
        first = Form.lot([("a", f"?{name}") for name in names[:3]])
        second = Form.lot([("b", f"?{name}", f"?{name}1") for name in names])
        wanted = meaning(first, store)
        for form in [first.opt(second & Form.lot([("a", f"?{name}") for name in names[3:]])),
                     first.opt(Form.lot([("a", "?x"), ("a", "?y")]) & second),
                     (first & Form.lot([("a", "?x"), ("a", "?y")])).opt(second).opt(second),
                     (first & Form.lot([("a", "?x"), ("a", "?y")])).opt(second.opt(second))]:
            found = meaning(form, store)
            self.assertEqual([len(wanted), len(found)], [8, 32])
            self.assertTrue(all(value == known[name[:2]].replace("k", "l") for known in found
                                for name, value in known.items() if len(name) == 3))

    def test_by_definition_without_listing_lots(self):
        with mock.patch.object(forms, "few_maps", lambda *_: None):
            self.test_by_definition()
            self.test_opt()
            self.test_and()

    def test_twelve_lots(self):
        store = Store([("b", f"k{at}", f"k{at + 1}") for at in range(12)])
        form = Form.lot([("b", "?x11", "?x12")])
        for at in range(10, -1, -1):
            form = Form.lot([("b", f"?x{at}", f"?x{at + 1}")]).opt(form)
        found = meaning(form, store)
        self.assertEqual(sorted(len(known) for known in found), list(range(2, 14)))


class Texts(unittest.TestCase):
    """Point 63."""

    def test_texts(self):
        form = Form.lot([("halt",), ("age", "?x", "a30")])
        self.assertEqual([form.text(), Form.lot([]).text()], ["{age(?x,a30) halt()}", "{}"])
        whole = Form.lot([("a", "?x")]).opt(Form.lot([("b", "?x", "?y")]) | Form.lot([("c", "?x")]))
        self.assertEqual(whole.text(), "({a(?x)} opt ({b(?x,?y)} | {c(?x)}))")
        self.assertEqual((whole & form).text(), "(({a(?x)} opt ({b(?x,?y)} | {c(?x)})) & {age(?x,a30) halt()})")

    def test_read(self):
        self.assertEqual(Form.read("{age(?x,a30) halt()}"), Form.lot([("halt",), ("age", "?x", "a30")]))
        self.assertEqual(Form.read("{}"), Form.lot([]))
        one, other = Form.lot([("a", "?x")]), Form.lot([])
        self.assertEqual(Form.read("({a(?x)} & {})"), one & other)
        self.assertEqual(Form.read("({} | {a(?x)})"), other | one)
        self.assertEqual(Form.read("(({} opt {}) opt ({} opt {a(?x)}))"), other.opt(other).opt(other.opt(one)))

    def test_read_again(self):
        numbers = dice(63)
        for _ in range(200):
            form = some_form(numbers, numbers.randint(1, 8))
            self.assertTrue(Form.read(form.text()) == form)

    def test_bad_texts(self):
        for text in [
            "", " ", "{", "}", "()", "{} ", " {}", "{}{}", "{ }", "{a}", "{a( )}", "{a(?x)", "a(?x)", "{a(?x)}}",
            "{{a(?x)}}",
            "({})", "({} {})", "({}&{})", "({} &{})", "({} & {}", "({} & {}))", "{} & {}", "({} & {} & {})",
            "({} and {})",
            "({} or {})", "({} OPT {})", "({}  & {})", "({} &  {})", "( {} & {})", "({} & {} )", "(({} & {}))",
            "({} & )",
            "( & {})", "{b(?x) a(?x)}", "{a(?x) a(?x)}", "{a(?x)  b(?x)}", "{a(?x) }", "{ a(?x)}", "{a(?x),b(?x)}",
            "({} opt({}))", "({} opt {}", "({} opt{})", "({} |{})", "({} || {})", "[{} & {}]", "{a(?X)}",
            "{a(?x,?y,?z,?w)}",
            "({a(?x)} opt {b(?x)}) ", "({} & {})\n", "{a(?x)\n}", "({} & {}) & {}", "(({} & {}) {})", "{a(?x}",
            "{a(?x))}",
            "({} o {})", "({} op {})", "(", ")", "((((", "({} & (", "{-}", "-", "({} & -)",
        ]:
            with self.subTest(text), self.assertRaises(BadText):
                Form.read(text)

    def test_spoiled_texts(self):
        numbers = dice(64)
        good = 0
        for _ in range(600):
            text = list(some_form(numbers, numbers.randint(1, 3)).text())
            at = numbers.randrange(len(text))
            text[at:at + numbers.randint(0, 1)] = numbers.choice([*" (){}&|?,ab", "", "opt", "{}"])
            try:
                self.assertEqual(Form.read("".join(text)).text(), "".join(text))
                good += 1
            except BadText:
                pass
        self.assertTrue(10 < good < 400)

    def test_depth(self):
        def deep(left, right):
            text = "{a(?x)}"
            for _ in range(left):
                text = f"({text} & {{b()}})"
            for _ in range(right):
                text = f"({{c()}} opt {text})"
            return text
        for left, right in [(20, 0), (0, 20), (10, 10), (3, 17)]:
            self.assertEqual(Form.read(deep(left, right)).text(), deep(left, right))
        for left, right in [(21, 0), (0, 21), (11, 10), (30, 0), (100, 50)]:
            with self.assertRaises(BadText):
                Form.read(deep(left, right))
        # Many parentheses, of which only two are open at once.
        wide = "({} & ({a(?x)} & {b(?x)}))"
        for _ in range(17):
            wide = f"({wide} | ({{}} opt {{}}))"
        self.assertEqual(Form.read(wide).text(), wide)
        for text in ["(" * 1000, "(" * 21, "({} & " * 300]:
            with self.assertRaises(BadText):
                Form.read(text)


class Woods(unittest.TestCase):
    """Points 64 to 67."""

    def test_arms(self):
        def texts(text):
            return [arm.text() for arm in arms(form_with(text))]
        self.assertEqual(texts("a:x"), ["{a(?x)}"])
        self.assertEqual(texts("(a:x | (b:x | c:x))"), ["{a(?x)}", "{b(?x)}", "{c(?x)}"])
        self.assertEqual(texts("((a:x | b:x) & (c:x | d:x))"), [
            "({a(?x)} & {c(?x)})", "({a(?x)} & {d(?x)})", "({b(?x)} & {c(?x)})", "({b(?x)} & {d(?x)})"])
        self.assertEqual(texts("((a:x | b:x) opt (c:x & d:y))"), [
            "({a(?x)} opt ({c(?x)} & {d(?y)}))", "({b(?x)} opt ({c(?x)} & {d(?y)}))"])
        self.assertEqual(texts("(((a:x | b:x) opt c:x) & d:x)"), [
            "(({a(?x)} opt {c(?x)}) & {d(?x)})", "(({b(?x)} opt {c(?x)}) & {d(?x)})"])

    def test_or_below(self):
        for text in ["(a:x opt (b:x | c:x))", "(a:x opt (d:x & (b:x | c:x)))", "(a:x opt (d:x opt (b:x | c:x)))",
                     "(a:x opt ((b:x | c:x) opt d:x))", "((a:x opt (b:x | c:x)) & d:x)",
                     "(d:x | (a:x opt (b:x | c:x)))",
                     "((a:x opt (b:x | c:x)) opt d:y)", "((a:x opt b:y) & (c:y opt (b:x | c:x)))"]:
            for asked in [arms, loose, wood_of]:
                with self.subTest(text), self.assertRaises(OrBelow):
                    asked(form_with(text))

    def test_arms_by_meaning(self):
        numbers = dice(65)
        seen = {True: 0, False: 0}
        for _ in range(400):
            form = some_form(numbers, numbers.randint(1, 5))
            seen[has_or_below(form)] += 1
            if has_or_below(form):
                self.assertRaises(OrBelow, arms, form)
                continue
            store = some_store(numbers)
            self.assertTrue(all(part.sign != "|" for arm in arms(form) for _, part in places(arm)))
            together = [known for arm in arms(form) for known in slow_meaning(arm, store.facts)]
            self.assertEqual(sorted_maps(together), slow_meaning(form, store.facts))
        self.assertGreater(min(seen.values()), 20)

    def test_loose(self):
        for text, name in [
            ("a:x", None), ("(a:x opt b:xy)", None), ("((a:x opt b:y) & c:xy)", "?y"), ("((a:x opt b:y) opt c:y)",
                                                                                        "?y"),
            ("((a:x opt b:xy) opt c:xz)", None), ("(a:x opt (b:xy opt c:yz))", None), ("(a:x opt (b:y opt c:xy))",
                                                                                       "?x"),
            ("(a:x & (b:y opt c:xz))", "?x"), ("((b:y opt c:xz) & a:x)", "?x"), ("(a:x & (b:x opt c:xz))", None),
            ("((a:x opt b:zx) & (c:x opt d:zy))", "?z"), ("((a:x opt b:uz) & (c:x opt d:zu))", "?u"),
            # In the first arm it is not loose, in the second one it is.
            ("((b:xy | a:x) opt (c:xz opt d:yz))", "?y"), ("(b:xy & (a:x | (a:x opt c:y)))", "?y"),
            # Variables of different arms are no matter.
            ("((a:x opt b:y) | c:y)", None), ("((a:x opt b:y) | (c:xy opt d:xy))", None),
        ]:
            with self.subTest(text):
                self.assertEqual(loose(form_with(text)), name)
                if name is not None:
                    with self.assertRaises(Loose) as caught:
                        wood_of(form_with(text))
                    self.assertEqual(caught.exception.variable, name)
                else:
                    self.assertEqual(len(wood_of(form_with(text))), len(arms(form_with(text))))

    def test_loose_by_definition(self):
        numbers = dice(66)
        seen = {}
        for _ in range(1500):
            form = some_form(numbers, numbers.randint(2, 5))
            if not has_or_below(form):
                wanted = min([slow_loose(arm) for arm in arms(form) if slow_loose(arm)], default=None)
                seen[wanted] = seen.get(wanted, 0) + 1
                self.assertEqual(loose(form), wanted)
        self.assertGreater(min(seen.get(None, 0), seen.get("?x", 0), seen.get("?z", 0)), 30)

    def test_wood_of(self):
        form = form_with("((a:x | b:x) opt (c:xy opt d:yz))")
        self.assertEqual([question.text() for question in wood_of(form)],
                         ["a(?x)\n c(?x,?y)\n  d(?y,?z)", "b(?x)\n c(?x,?y)\n  d(?y,?z)"])
        self.assertEqual([question.text() for question in wood_of(form_with("((a:x opt b:xy) & (c:x opt d:xz))"))],
                         ["a(?x) c(?x)\n b(?x,?y)\n d(?x,?z)"])
        self.assertEqual([question.text() for question in wood_of(form_with("({} | ({} opt a:x))"))], ["-",
                                                                                                       "-\n a(?x)"])

    def test_second_forms_without_new_variables(self):
        self.check_alike("(a:x opt b:x)")
        self.check_alike("(a:x opt {})")
        self.check_alike("(a:x opt (b:x opt c:xy))")
        self.check_alike("(a:x opt ({} opt a:y))")
        self.check_alike("(a:x opt ({h()} opt (a:y opt c:yz)))")
        self.check_alike("(a:x opt ((b:x opt c:xy) opt d:xz))")
        self.check_alike("(b:xy opt (b:yx opt (c:x opt (d:xz opt a:z))))")
        self.check_alike("({} opt ({h()} opt a:x))")
        self.check_alike("((a:x opt {h()}) & (a:x opt {h()}))")

    def check_alike(self, text):
        """The wood of a form has the same answers in several stores, and so have the questions and the arms."""
        numbers = dice(67)
        form = form_with(text)
        for most in [2, 4, 6, 9, 12] * 8:
            lot = shaped_lot(numbers, most, ["k", "l"], (("a", 1), ("b", 1), ("b", 2), ("c", 1), ("c", 2), ("d", 2),
                                                         ("h", 0)))
            self.assertEqual(slow_answers(wood_of(form), lot), slow_meaning(form, lot))

    def test_woods_by_definition(self):
        numbers = dice(68)
        many = 0
        for at in range(1500):
            form = some_form(numbers, numbers.randint(1, 5), signs=("&", "|", "opt", "opt", "opt"))
            if has_or_below(form) or loose(form) is not None:
                continue
            many += 1
            store = some_store(numbers, 10)
            wood = wood_of(form)
            for question, arm in zip(wood, arms(form), strict=True):
                self.assertEqual(slow_answers([question], store.facts), slow_meaning(arm, store.facts), form.text())
            self.assertEqual(answers(wood, store), meaning(form, store))
        self.assertGreater(many, 300)

    def test_form_of(self):
        wood = [Question.read("a(?x)\n b(?x,?y)\n  c(?y,?z)\n b(?x,?w)"), Question.read("-"), Question.read("d(?x)")]
        numbers = dice(69)
        for at in range(1, 4):
            form = form_of(wood[:at])
            self.assertIsNone(loose(form))
            self.assertEqual(len(arms(form)), at)
            for _ in range(30):
                facts = shaped_lot(numbers, 9, ["k", "l"], (("a", 1), ("b", 2), ("c", 2), ("d", 1)))
                self.assertEqual(slow_meaning(form, facts), slow_answers(wood[:at], facts))

    def test_form_of_by_definition(self):
        numbers = dice(70)
        for _ in range(200):
            wood = [some_question(numbers, numbers.randint(1, 4), root=numbers.random() < 0.7)
                    for _ in range(numbers.randint(1, 2))]
            facts = shaped_lot(numbers, numbers.randint(0, 12), ["k", "l"])
            form = form_of(wood)
            self.assertIsNone(loose(form))
            self.assertEqual(slow_meaning(form, facts), slow_answers(wood, facts))
            self.assertEqual(told(answers(wood_of(form), Store(facts))), told(answers(wood, Store(facts))))

    def test_at_the_limits(self):
        # Twelve lots, in three times three times three times three arms.
        form = Form.lot([])
        for at in range(4):
            one, other, more = (Form.lot([(table, f"?x{at}")]) for table in "abc")
            form = form & ((one | other) | more)
        wood = wood_of(form)
        self.assertEqual(len(wood), 81)
        # Eleven nodes below one.
        wide = Form.lot([("a", "?x")])
        for at in range(11):
            wide = wide.opt(Form.lot([("b", "?x", f"?y{at}")]))
        question = wood_of(wide)[0]
        self.assertEqual([len(question), len(question.parts()), question.next_nodes((0,))],
                         [12, 2 ** 11, list(range(1, 12))])
        found = answers([question], Store([("a", "k"), ("a", "l"), ("b", "k", "m")]))
        self.assertEqual([len(known) for known in found], [12, 1])


class Shrinking(unittest.TestCase):
    """Points 7 and 68."""

    def test_shrunk(self):
        odd = form_with("((a:x opt b:y) & c:xy)")
        few = Store([("a", "m"), ("c", "m", "k")])
        self.assertEqual(shrunk(odd, few, few + Store([("b", "n")])), [{"?x": "m", "?y": "k"}])
        self.assertEqual(shrunk(odd, few, few), [])
        plain = form_with("(a:x opt b:xy)")
        self.assertEqual(shrunk(plain, Store([("a", "k")]), Store([("a", "k"), ("b", "k", "l")])), [])
        self.assertEqual(shrunk(plain, Store([("a", "k"), ("b", "k", "l"), ("a", "m")]), Store([("a", "k")])),
                         [{"?x": "k", "?y": "l"}, {"?x": "m"}])

    def test_by_definition(self):
        numbers = dice(71)
        many = 0
        for _ in range(600):
            form = some_form(numbers, numbers.randint(1, 5))
            store, later = some_store(numbers), some_store(numbers)
            after = slow_meaning(form, later.facts)
            wanted = [known for known in slow_meaning(form, store.facts)
                      if not any(known.items() <= other.items() for other in after)]
            many += len(wanted)
            self.assertEqual(told(shrunk(form, store, later)), told(wanted))
        self.assertGreater(many, 300)

    def test_forms_of_woods_do_not_shrink(self):
        numbers = dice(72)
        shrinking = 0
        for _ in range(2500):
            form = some_form(numbers, numbers.randint(2, 5), signs=("&", "opt"), names=["?x", "?y", "?z"])
            store = some_store(numbers)
            gone = shrunk(form, store, store + some_store(numbers, 3))
            shrinking += len(gone) > 0
            if loose(form) is None:
                self.assertEqual(gone, [])
        self.assertGreater(shrinking, 3)


if __name__ == "__main__":
    unittest.main()
