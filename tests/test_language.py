"""What can be seen at once of the rules in LANGUAGE.md, and that the interface is defined where it is listed."""

import ast
import pathlib
import unittest

PACKAGE = pathlib.Path(__file__).resolve().parent.parent / "fullestrows"
LISTED = {
    "facts.py": "is_name is_variable is_pattern is_fact variables_of filled pattern_text read_pattern Store",
    "matching.py": "each_map maps first_map count_maps map_between agree joined is_above only_keys in_order",
    "rules.py": "Key Rule broken keeps closed store_of",
    "questions.py": "Question",
    "answers.py": "answers each_answer by_part tellers is_answer fullest lost changes",
    "forms.py": "Form meaning arms loose wood_of form_of shrunk",
    "games.py": "candidates goes_on spoil is_lost",
}
METHODS = {
    "Store": "__len__ __iter__ __contains__ __eq__ __add__ __sub__ facts within constants only text read",
    "Key": "__eq__ table size places",
    "Rule": "__eq__ body head",
    "Question": "__len__ __eq__ nodes new_variables is_part parts next_nodes variables patterns part_with text renamed"
                " read",
    "Form": "__and__ __or__ __eq__ lot read sign halves wanted opt variables text",
}


def sources():
    """The files of the package with their texts."""
    return [(path.name, path.read_text(encoding="utf-8")) for path in sorted(PACKAGE.glob("*.py"))]


class Language(unittest.TestCase):
    def test_only_python_files(self):
        held = {path.name for path in PACKAGE.iterdir() if path.name != "__pycache__"}
        self.assertEqual(held, {name for name, _ in sources()})
        self.assertIn("__init__.py", held)

    def test_signs_and_sizes(self):
        for name, text in sources():
            with self.subTest(name):
                lines = text.split("\n")
                self.assertLessEqual(len(lines) - 1, 399)
                self.assertLessEqual(max(len(line) for line in lines), 120)
                self.assertTrue(all(sign == "\n" or " " <= sign <= "~" for sign in text))

    def test_functions_are_short(self):
        for name, text in sources():
            for node in ast.walk(ast.parse(text)):
                if isinstance(node, ast.FunctionDef):
                    self.assertLessEqual(node.end_lineno - node.lineno + 1, 40, (name, node.name))

    def test_imports(self):
        allowed = {"heapq", "math", "itertools"}
        for name, text in sources():
            for node in ast.walk(ast.parse(text)):
                self.assertNotIsInstance(node, ast.Import, name)
                if isinstance(node, ast.ImportFrom):
                    self.assertEqual(node.level, 0)
                    self.assertTrue(node.module in allowed or node.module.startswith("fullestrows."), name)
                    self.assertTrue(all(one.name != "*" and one.asname is None for one in node.names), name)

    def test_what_is_not_used(self):
        barred = (ast.Global, ast.AsyncFunctionDef, ast.Await, ast.Div)
        for name, text in sources():
            for node in ast.walk(ast.parse(text)):
                self.assertNotIsInstance(node, barred, name)
                if isinstance(node, ast.Constant):
                    self.assertNotIsInstance(node.value, (float, complex), name)

    def test_interface_is_defined_where_it_is_listed(self):
        for name, listed in LISTED.items():
            tree = ast.parse((PACKAGE / name).read_text(encoding="utf-8"))
            defined = {node.name for node in tree.body if isinstance(node, (ast.FunctionDef, ast.ClassDef))}
            self.assertLessEqual(set(listed.split()), defined)
            for node in tree.body:
                if isinstance(node, ast.ClassDef):
                    methods = {part.name for part in node.body if isinstance(part, ast.FunctionDef)}
                    self.assertLessEqual(set(METHODS.get(node.name, "").split()), methods)


if __name__ == "__main__":
    unittest.main()
