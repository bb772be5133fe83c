"""The form of the package's files, as far as it is easily read off them."""

import ast
import unittest
from pathlib import Path

FOLDER = Path(__file__).resolve().parent.parent / "figuretexts"
FILES = sorted(FOLDER.glob("*.py"))
OUTSIDE = {"math": {"gcd", "lcm", "isqrt"}}


def trees():
    return [(file.name, ast.parse(file.read_text())) for file in FILES]


class Form(unittest.TestCase):
    def test_the_folder_holds_files_of_python_only(self):
        self.assertIn("__init__.py", [file.name for file in FILES])
        others = [path.name for path in FOLDER.iterdir() if path not in FILES and path.name != "__pycache__"]
        self.assertEqual(others, [])

    def test_signs_and_sizes(self):
        for file in FILES:
            text = file.read_text()
            self.assertTrue(all(sign == "\n" or " " <= sign <= "~" for sign in text), file.name)
            self.assertLessEqual(len(text.splitlines()), 399, file.name)
            self.assertLessEqual(max(len(line) for line in text.splitlines()), 120, file.name)

    def test_functions_have_at_most_forty_lines(self):
        for name, tree in trees():
            for part in ast.walk(tree):
                if isinstance(part, ast.FunctionDef):
                    self.assertLessEqual(part.end_lineno - part.lineno + 1, 40, (name, part.name))

    def test_imports_are_of_the_package_and_by_name(self):
        own = {"figuretexts." + file.stem for file in FILES}
        for name, tree in trees():
            for part in ast.walk(tree):
                self.assertNotIsInstance(part, ast.Import, name)
                if isinstance(part, ast.ImportFrom) and part.module not in own:
                    self.assertIn(part.module, OUTSIDE, name)
                    self.assertLessEqual({alias.name for alias in part.names}, OUTSIDE[part.module], name)

    def test_no_barred_values_and_statements(self):
        for name, tree in trees():
            for part in ast.walk(tree):
                self.assertNotIsInstance(part, (ast.Global, ast.AsyncFunctionDef, ast.Await, ast.Div), name)
                if isinstance(part, ast.Constant):
                    self.assertNotIsInstance(part.value, (float, complex), name)
                    self.assertNotIn("%", str(part.value), name)
                if isinstance(part, ast.BinOp) and isinstance(part.op, ast.Pow):
                    self.assertIsInstance(part.right, ast.Constant, name)

    def test_what_goes_over_all_takes_a_list(self):
        # Number has an ==, so these take no generator expressions.
        takers = ("any", "all", "min", "max", "sum", "sorted")
        for name, tree in trees():
            for part in ast.walk(tree):
                if isinstance(part, ast.Call) and isinstance(part.func, ast.Name) and part.func.id in takers:
                    self.assertNotIsInstance(part.args[0], ast.GeneratorExp, name)
