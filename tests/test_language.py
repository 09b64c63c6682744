"""What can be seen at once of the rules in LANGUAGE.md, and that the interface is defined where it is listed."""

import ast
import builtins
import pathlib
import re
import unittest

PACKAGE = pathlib.Path(__file__).resolve().parent.parent / "fullestrows"
LISTED = {
    "facts.py": "is_name is_variable is_pattern is_fact variables_of filled pattern_text read_pattern Store",
    "matching.py": "each_map maps first_map count_maps map_between agree joined is_above only_keys in_order",
    "rules.py": "Key Rule broken keeps closed store_of",
    "questions.py": "Question",
    "answers.py": "answers each_answer by_part tellers is_answer fullest lost changes",
    "forms.py": "Form meaning arms loose wood_of form_of shrunk",
    "games.py": "candidates goes_on spoil is_lost",
    "containment.py": "contained papers are_papers parting parts_them never_answers always_alone shared",
    "thinning.py": "alike unlike strikes struck needless thinned always_had tightened",
    "shown.py": "shown_answers part_of ways are_ways unmet is_unmet needless_nodes without_node",
    "later.py": "is_final final_paper is_final_paper undoing undoes final_answers always_final unsettled",
    "reasons.py": "support why_not needed in_the_way clearing lacking",
    "unknowns.py": "is_possible some_store is_sure sure_maps why_sure is_why against",
    "desk.py": "Desk read_desk rehearsed",
    "complete.py": "is_later is_settled settled_paper is_settled_paper unsettling unsettles settled_answers tables_of"
                   " enough_tables",
}
METHODS = {
    "Store": "__len__ __iter__ __contains__ __eq__ __add__ __sub__ facts within constants only text read",
    "Key": "__eq__ table size places",
    "Rule": "__eq__ body head",
    "Question": "__len__ __eq__ nodes new_variables is_part parts next_nodes variables patterns part_with text renamed"
                " read",
    "Desk": "__init__ exchange put strike name forget __len__ undo redo store names wood answers news trial supposed text",
    "Form": "__and__ __or__ __eq__ lot read sign halves wanted opt variables text",
}

# The builtins that may be used, and the methods of builtin values.
BUILTINS = """len range enumerate zip min max sum abs sorted reversed int str bool list tuple dict set frozenset
isinstance ord repr any all divmod Exception ValueError TypeError KeyError IndexError LookupError RuntimeError True False None
NotImplemented property classmethod staticmethod iter next map super""".split()
BARRED = """register mro elements open input law version_info with_traceback add_note attrgetter breakpoint builtins
compile copyright credits delattr dir eval exec exit gc getattr globals hasattr help id importlib license locals methodcaller os
quit setattr type vars sys hash chr float bytes object format""".split()
WORDS = """typing typing_extensions enum Enum IntEnum StrEnum Flag IntFlag Generic Protocol ABC ABCMeta namedtuple
NamedTuple TypedDict TYPE_CHECKING abstractmethod dataclass overload contextmanager""".split()


def nodes_of(kind, tree=None):
    """All nodes of a kind in the files of the package, each with the name of its file."""
    for name, text in sources():
        for node in ast.walk(ast.parse(text) if tree is None else tree):
            if isinstance(node, kind):
                yield name, node


def sources():
    """The files of the package with their texts."""
    return [(path.name, path.read_text(encoding="utf-8")) for path in sorted(PACKAGE.glob("*.py"))]


MODIFYING = set("append clear extend insert pop remove reverse setdefault update sort add discard".split())
OPERATORS = """__lt__ __le__ __gt__ __ge__ __ne__ __add__ __sub__ __mul__ __and__ __or__ __xor__ __bool__ __contains__
__getitem__ __eq__ __len__ __repr__ __str__""".split()


def is_own_list(value):
    """Whether an expression makes a list or dict that may be changed where it is made."""
    if isinstance(value, ast.Call) and isinstance(value.func, ast.Name):
        return value.func.id in ("list", "dict", "sorted")
    return isinstance(value, (ast.List, ast.Dict, ast.ListComp))


def own_lists(function):
    """The local names that hold nothing but lists and dicts that the function itself makes."""
    good, bad = set(), set()
    for node in ast.walk(function):
        if isinstance(node, ast.Assign):
            for target in node.targets:
                if isinstance(target, ast.Name):
                    (good if is_own_list(node.value) else bad).add(target.id)
    return good - bad


def changes_of(function):
    """What a function changes that it did not make itself (L5 Operators)."""
    own = own_lists(function)
    found = []
    for node in ast.walk(function):
        if isinstance(node, ast.Attribute) and not isinstance(node.ctx, ast.Load):
            held = isinstance(node.value, ast.Name) and node.value.id == "self" and function.name == "__init__"
            found += [] if held else [node]
        if isinstance(node, ast.Subscript) and not isinstance(node.ctx, ast.Load):
            found += [] if isinstance(node.value, ast.Name) and node.value.id in own else [node]
        if isinstance(node, ast.Call) and isinstance(node.func, ast.Attribute) and node.func.attr in MODIFYING:
            mine = isinstance(node.func.value, ast.Name) and node.func.value.id in own and node.func.attr != "sort"
            found += [] if mine else [node]
        if isinstance(node, ast.AugAssign) and not isinstance(node.value, ast.Constant):
            found.append(node)
    return found


def reached_by_operators():
    """The operators, properties, __eq__ and __len__ of the package, and all that they may call, with their names."""
    functions, made, waiting = {}, {}, []
    for name, holder in nodes_of(ast.Module):
        for node in ast.walk(holder):
            if isinstance(node, ast.FunctionDef):
                functions.setdefault(node.name, []).append(node)
                marks = [getattr(mark, "id", None) for mark in node.decorator_list]
                if node.name in OPERATORS or "property" in marks:
                    waiting.append((node.name, node))
            if isinstance(node, ast.ClassDef):
                made[node.name] = [(part.name, part) for part in node.body
                                   if isinstance(part, ast.FunctionDef) and part.name == "__init__"]
    reached = []
    while waiting:
        one = waiting.pop()
        if one not in reached:
            reached.append(one)
            for call in ast.walk(one[1]):
                if isinstance(call, ast.Call):
                    name = getattr(call.func, "id", getattr(call.func, "attr", None))
                    waiting += made.get(name, [(name, node) for node in functions.get(name, [])])
    return reached


def held_by(value):
    """The names, attributes and items, as they are written, that an expression may be."""
    if isinstance(value, (ast.Name, ast.Attribute, ast.Subscript)):
        return {ast.unparse(value)}
    if isinstance(value, ast.IfExp):
        return held_by(value.body) | held_by(value.orelse)
    if isinstance(value, ast.BoolOp):
        return {name for one in value.values for name in held_by(one)}
    return set()


def walked_by(value):
    """What a loop over an expression goes through."""
    if isinstance(value, ast.Call) and getattr(value.func, "id", None) in ("enumerate", "zip", "reversed"):
        return {name for one in value.args for name in walked_by(one)}
    if isinstance(value, ast.Call) and getattr(value.func, "attr", None) in ("items", "keys", "values"):
        return held_by(value.func.value)
    return held_by(value)


def changed_in(rows):
    """What the rows of a loop change, with the places where they do."""
    for node in [node for row in rows for node in ast.walk(row)]:
        if isinstance(node, ast.Call) and getattr(node.func, "attr", None) in MODIFYING:
            yield node.lineno, held_by(node.func.value)
        if isinstance(node, ast.Subscript) and not isinstance(node.ctx, ast.Load):
            yield node.lineno, held_by(node.value)
        if isinstance(node, ast.AugAssign):
            yield node.lineno, held_by(node.target)


def assigned_in(function):
    """The pairs of what an assignment of a function may make the same."""
    for node in ast.walk(function):
        if isinstance(node, ast.Assign):
            for target in node.targets:
                several = [(target, node.value)]
                if isinstance(target, ast.Tuple) and isinstance(node.value, ast.Tuple):
                    several = zip(target.elts, node.value.elts)
                for one, other in several:
                    yield from [(mine, theirs) for mine in held_by(one) for theirs in held_by(other)]


def same_as(names, pairs):
    """All that some names may be the same as by assignments, these names included."""
    found = set()
    more = set(names)
    while more:
        found |= more
        more = {end for pair in pairs for start, end in (pair, pair[::-1]) if start in found} - found
    return found


def changed_while_walked(function):
    """The lines where a function changes in a loop what the loop may walk (L23), under whatever name."""
    pairs = list(assigned_in(function))
    return [line for node in ast.walk(function) if isinstance(node, ast.For)
            for line, names in changed_in(node.body) if same_as(walked_by(node.iter), pairs) & names]



class Language(unittest.TestCase):
    def test_only_python_files(self):
        held = {path.name for path in PACKAGE.iterdir() if path.name != "__pycache__"}
        self.assertEqual(held, {name for name, _ in sources()})
        self.assertIn("__init__.py", held)

    def test_signs_and_sizes(self):
        for name, text in sources():
            with self.subTest(name):
                lines = text.split("\n")
                self.assertLessEqual(len(lines) - 1, 399)
                self.assertLessEqual(max(len(line) for line in lines), 120)
                self.assertTrue(all(sign == "\n" or " " <= sign <= "~" for sign in text))

    def test_functions_are_short(self):
        for name, text in sources():
            for node in ast.walk(ast.parse(text)):
                if isinstance(node, ast.FunctionDef):
                    self.assertLessEqual(node.end_lineno - node.lineno + 1, 40, (name, node.name))

    def test_imports(self):
        allowed = {"heapq", "math", "itertools"}
        for name, text in sources():
            for node in ast.walk(ast.parse(text)):
                self.assertNotIsInstance(node, ast.Import, name)
                if isinstance(node, ast.ImportFrom):
                    self.assertEqual(node.level, 0)
                    self.assertTrue(node.module in allowed or node.module.startswith("fullestrows."), name)
                    self.assertTrue(all(one.name != "*" and one.asname is None for one in node.names), name)

    def test_what_is_not_used(self):
        barred = (ast.Global, ast.AsyncFunctionDef, ast.Await, ast.Div)
        for name, text in sources():
            for node in ast.walk(ast.parse(text)):
                self.assertNotIsInstance(node, barred, name)
                if isinstance(node, ast.Constant):
                    self.assertNotIsInstance(node.value, (float, complex), name)

    def test_names_that_are_barred(self):
        for name, node in nodes_of((ast.Name, ast.FunctionDef, ast.ClassDef, ast.arg, ast.Attribute, ast.keyword)):
            told = [getattr(node, field, None) for field in ("id", "name", "arg", "attr")]
            self.assertFalse(set(told) & set(BARRED), name)
        for name, node in nodes_of(ast.Name):
            if node.id in dir(builtins):
                self.assertIn(node.id, BUILTINS, name)
        for name, text in sources():
            self.assertFalse([word for word in WORDS if word in re.findall(r"\w+", text)], name)

    def test_no_name_of_a_builtin_or_an_import_is_bound(self):
        for name, text in sources():
            tree = ast.parse(text)
            taken = {one.name for node in tree.body if isinstance(node, ast.ImportFrom) for one in node.names}
            taken |= {node.name for node in tree.body if isinstance(node, ast.ClassDef)} | set(dir(builtins))
            for node in ast.walk(tree):
                if isinstance(node, ast.arg):
                    self.assertNotIn(node.arg, taken, name)
                if isinstance(node, ast.Name) and isinstance(node.ctx, ast.Store):
                    self.assertNotIn(node.id, taken, name)

    def test_no_generator_expressions_and_lambdas_on_one_line(self):
        self.assertEqual(list(nodes_of(ast.GeneratorExp)), [])
        lines = [(name, node.lineno) for name, node in nodes_of(ast.Lambda)]
        self.assertEqual(len(lines), len(set(lines)))

    def test_names_of_generators_are_their_own(self):
        functions = [node for _, node in nodes_of(ast.FunctionDef)]
        names = [node.name for node in functions]
        for node in functions:
            if any(isinstance(part, (ast.Yield, ast.YieldFrom)) for part in ast.walk(node)):
                self.assertEqual(names.count(node.name), 1, node.name)
        calls = [node.func.id for _, node in nodes_of(ast.Call) if isinstance(node.func, ast.Name)]
        self.assertIn("each_map", calls)

    def test_class_methods_and_properties_have_names_of_their_own(self):
        plain, decorated = set(), {"property": set(), "classmethod": set(), "staticmethod": set()}
        for _, holder in nodes_of(ast.ClassDef):
            for node in holder.body:
                if isinstance(node, ast.FunctionDef):
                    marks = [mark.id for mark in node.decorator_list]
                    (decorated[marks[0]] if marks else plain).add(node.name)
        stored = {node.attr for _, node in nodes_of(ast.Attribute) if isinstance(node.ctx, ast.Store)}
        for kind, names in decorated.items():
            self.assertFalse(names & (plain | stored), kind)
            for other, more in decorated.items():
                self.assertTrue(other == kind or not names & more)
        self.assertFalse(plain & stored)
        builtin = {name for kind in (str, int, list, dict, set, tuple, bytes) for name in dir(kind)}
        # These may be attributes all the same.
        builtin -= set("count index title find get join lower upper split strip copy add".split())
        self.assertFalse((stored | decorated["property"]) & builtin)

    def test_sets_are_used_on_the_spot(self):
        for name, text in sources():
            tree = ast.parse(text)
            fine = set()
            for node in ast.walk(tree):
                if isinstance(node, ast.Call) and isinstance(node.func, ast.Name) and node.func.id in ("sorted", "len"):
                    fine |= {id(node.args[0])}
                if isinstance(node, ast.Assign) and isinstance(node.targets[0], ast.Name):
                    fine |= {id(node.value)}
                if isinstance(node, ast.Compare) and isinstance(node.ops[0], (ast.In, ast.NotIn)):
                    fine |= {id(node.comparators[0])}
            for node in ast.walk(tree):
                called = isinstance(node, ast.Call) and isinstance(node.func, ast.Name) and node.func.id == "set"
                if called or isinstance(node, (ast.Set, ast.SetComp)):
                    self.assertIn(id(node), fine, (name, node.lineno))

    def test_operators_and_properties_change_nothing(self):
        reached = reached_by_operators()
        names = {name for name, _ in reached}
        self.assertLessEqual({"__add__", "__sub__", "__and__", "__or__", "__eq__", "__len__", "__contains__", "facts",
                              "nodes", "wanted", "is_fact", "is_name"}, names)
        for name, node in reached:
            with self.subTest(name):
                self.assertEqual(changes_of(node), [])
                passed = {part.arg for part in ast.walk(node) if isinstance(part, ast.arg)} - {"cls"}
                for call in ast.walk(node):
                    if isinstance(call, ast.Call):
                        self.assertFalse(isinstance(call.func, ast.Name) and call.func.id in passed)
                        self.assertIsInstance(call.func, (ast.Name, ast.Attribute))

    def test_changes_are_seen(self):
        for text, wanted in [
                ("self.a = 1", 1), ("self.a += 1", 1), ("x.a = []", 1), ("xs = [1]\n xs.append(2)", 0),
                ("x.append(2)", 1), ("x.setdefault(1, []).append(2)", 2), ("xs = {}\n xs.setdefault(1, []).append(2)", 1),
                ("xs = {a: 1 for a in x}\n xs.update(x)", 1), ("xs = dict(x)\n xs[1] = 2", 0), ("x[1] = 2", 1),
                ("xs = x\n xs[1] = 2", 1), ("xs = sorted(x)\n xs.sort()", 1), ("xs = [a for a in x]\n xs.pop()", 0),
                ("del x[1]", 1), ("xs = []\n xs[1:] = x", 0), ("xs = []\n xs = x\n xs.append(1)", 1)]:
            with self.subTest(text):
                tree = ast.parse(f"def f(self, x):\n {text}")
                self.assertEqual(len(changes_of(tree.body[0])), wanted)

    def test_no_loop_changes_what_is_walked(self):
        for name, function in nodes_of(ast.FunctionDef):
            self.assertEqual(changed_while_walked(function), [], (name, function.name))

    def test_changes_of_what_is_walked_are_seen(self):
        for text, wanted in [
                ("for x in xs:\n  xs.append(x)", 1), ("for x in list(xs):\n  xs.append(x)", 0),
                ("for k, x in enumerate(xs):\n  xs[k] = x", 1), ("for x in xs:\n  ys.append(x)", 0),
                ("for x in xs:\n  ys.append(x)\n xs = ys", 1), ("ys = xs\n for x in xs:\n  ys.append(x)", 1),
                ("for x in xs or ys:\n  ys.append(x)", 1), ("zs = ys\n xs = zs\n for x in xs:\n  ys += x", 1),
                ("for k, x in d.items():\n  del d[k]", 1), ("for x in self.xs:\n  self.xs.clear()", 1),
                ("ys = self.xs\n for x in zip(xs, ys):\n  self.xs.pop()", 1), ("ys = [*xs]\n for x in xs:\n  ys.pop()", 0),
                ("xs, ys = ys, xs\n for x in xs:\n  if x:\n   ys.append(x)", 1)]:
            with self.subTest(text):
                tree = ast.parse(f"def f(self, xs, ys, d):\n {text}")
                self.assertEqual(len(changed_while_walked(tree.body[0])), wanted)

    def test_strings(self):
        for name, node in nodes_of(ast.Constant):
            if isinstance(node.value, str):
                self.assertNotIn("%", node.value, name)
        for name, text in sources():
            self.assertNotIn("\t", text, name)

    def test_interface_is_defined_where_it_is_listed(self):
        for name, listed in LISTED.items():
            tree = ast.parse((PACKAGE / name).read_text(encoding="utf-8"))
            defined = {node.name for node in tree.body if isinstance(node, (ast.FunctionDef, ast.ClassDef))}
            self.assertLessEqual(set(listed.split()), defined)
            for node in tree.body:
                if isinstance(node, ast.ClassDef):
                    methods = {part.name for part in node.body if isinstance(part, ast.FunctionDef)}
                    self.assertLessEqual(set(METHODS.get(node.name, "").split()), methods)


if __name__ == "__main__":
    unittest.main()
