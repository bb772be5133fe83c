"""The form of the package's files, as far as it is easily read off them."""

import ast
import builtins
import unittest
from pathlib import Path

FOLDER = Path(__file__).resolve().parent.parent / "figuretexts"
FILES = sorted(FOLDER.glob("*.py"))
OUTSIDE = {
    "math": {"gcd", "lcm", "isqrt", "comb", "perm", "factorial"},
    "heapq": {"heappush", "heappop", "heapify", "heapreplace", "heappushpop"},
    "itertools": {
        "product", "combinations", "permutations", "chain", "accumulate", "pairwise", "islice", "zip_longest",
    },
    "collections": {"defaultdict"},
    "__future__": {"annotations"},
}
BUILTINS = set(
    "len range enumerate zip min max sum abs sorted reversed int str bool bytes list tuple dict set frozenset isinstance "
    "ord repr any all divmod pow getattr hasattr setattr iter next map super property staticmethod classmethod object "
    "Exception ValueError TypeError KeyError IndexError LookupError ZeroDivisionError ArithmeticError OverflowError "
    "RuntimeError NotImplementedError AttributeError StopIteration NotImplemented".split()
)
METHODS = set(
    "append clear copy count endswith extend find get index insert isalnum isalpha isdigit islower isspace isupper items "
    "join keys ljust lower lstrip partition pop remove replace reverse rfind rjust rpartition rsplit rstrip setdefault "
    "split splitlines startswith strip update upper values zfill bit_length title capitalize swapcase casefold center "
    "expandtabs removeprefix removesuffix rindex isascii isdecimal isnumeric istitle isidentifier isprintable translate "
    "maketrans sort add discard format from_iterable encode decode hex from_bytes".split()
)


def trees():
    return [(file.name, ast.parse(file.read_text())) for file in FILES]


class Form(unittest.TestCase):
    def test_the_folder_holds_files_of_python_only(self):
        self.assertIn("__init__.py", [file.name for file in FILES])
        others = [path.name for path in FOLDER.iterdir() if path not in FILES and path.name != "__pycache__"]
        self.assertEqual(others, [])

    def test_signs_and_sizes(self):
        for file in FILES:
            text = file.read_text()
            self.assertTrue(all(sign == "\n" or " " <= sign <= "~" for sign in text), file.name)
            self.assertLessEqual(len(text.splitlines()), 399, file.name)
            self.assertLessEqual(max(len(line) for line in text.splitlines()), 120, file.name)

    def test_functions_have_at_most_forty_lines(self):
        for name, tree in trees():
            for part in ast.walk(tree):
                if isinstance(part, ast.FunctionDef):
                    self.assertLessEqual(part.end_lineno - part.lineno + 1, 40, (name, part.name))

    def test_imports_are_of_the_package_and_by_name(self):
        own = {"figuretexts." + file.stem for file in FILES}
        for name, tree in trees():
            for part in ast.walk(tree):
                self.assertNotIsInstance(part, ast.Import, name)
                if isinstance(part, ast.ImportFrom) and part.module not in own:
                    self.assertIn(part.module, OUTSIDE, name)
                    self.assertLessEqual({alias.name for alias in part.names}, OUTSIDE[part.module], name)

    def test_no_barred_values_and_statements(self):
        for name, tree in trees():
            for part in ast.walk(tree):
                self.assertNotIsInstance(part, (ast.Global, ast.AsyncFunctionDef, ast.Await, ast.Div), name)
                if isinstance(part, ast.Constant):
                    self.assertNotIsInstance(part.value, (float, complex), name)
                    self.assertNotIn("%", str(part.value), name)
                if isinstance(part, ast.BinOp) and isinstance(part.op, ast.Pow):
                    self.assertIsInstance(part.right, ast.Constant, name)

    def test_what_goes_over_all_takes_a_list(self):
        # Number has an ==, so these take no generator expressions.
        takers = ("any", "all", "min", "max", "sum", "sorted")
        for name, tree in trees():
            for part in ast.walk(tree):
                if isinstance(part, ast.Call) and isinstance(part.func, ast.Name) and part.func.id in takers:
                    self.assertNotIsInstance(part.args[0], ast.GeneratorExp, name)


class Names(unittest.TestCase):
    def test_no_two_files_import_from_each_other(self):
        imports = {}
        for name, tree in trees():
            found = [part.module for part in ast.walk(tree) if isinstance(part, ast.ImportFrom)]
            imports["figuretexts." + name.removesuffix(".py")] = [module for module in found if module not in OUTSIDE]
        done = set()
        while len(done) < len(imports):
            ready = [name for name, needs in imports.items() if name not in done and set(needs) <= done]
            self.assertNotEqual(ready, [], set(imports) - done)
            done.update(ready)

    def test_no_name_has_two_meanings(self):
        for name, tree in trees():
            outer = {part.name for part in tree.body if isinstance(part, ast.ClassDef)}
            for part in tree.body:
                if isinstance(part, ast.ImportFrom):
                    outer.update(alias.asname or alias.name for alias in part.names)
                elif isinstance(part, (ast.FunctionDef, ast.ClassDef)):
                    self.assertNotIn(part.name, dir(builtins), name)
            for part in ast.walk(tree):
                told = part.arg if isinstance(part, ast.arg) else None
                if isinstance(part, ast.Name) and isinstance(part.ctx, ast.Store):
                    told = part.id
                self.assertNotIn(told, outer, name)
                self.assertNotIn(told, dir(builtins), name)

    def test_methods_are_no_attributes(self):
        for name, tree in trees():
            for owner in ast.walk(tree):
                if isinstance(owner, ast.ClassDef):
                    methods = {part.name for part in owner.body if isinstance(part, ast.FunctionDef)}
                    for part in ast.walk(owner):
                        if isinstance(part, ast.Attribute) and isinstance(part.ctx, ast.Store):
                            self.assertNotIn(part.attr, methods, (name, owner.name))

    def test_only_known_builtins_and_methods(self):
        own = set()
        for _, tree in trees():
            own.update(part.name for part in ast.walk(tree) if isinstance(part, ast.FunctionDef))
            own.update(part.attr for part in ast.walk(tree) if isinstance(part, ast.Attribute)
                       and isinstance(part.ctx, ast.Store))
        for name, tree in trees():
            for part in ast.walk(tree):
                if isinstance(part, ast.Name) and part.id in dir(builtins):
                    self.assertIn(part.id, BUILTINS, name)
                if isinstance(part, ast.Call) and isinstance(part.func, ast.Attribute):
                    self.assertIn(part.func.attr, METHODS | own, name)

    def test_sets_are_asked_at_once_or_kept_by_a_name(self):
        for name, tree in trees():
            parents = {child: part for part in ast.walk(tree) for child in ast.iter_child_nodes(part)}
            for part in ast.walk(tree):
                called = isinstance(part, ast.Call) and isinstance(part.func, ast.Name) and part.func.id == "set"
                if called or isinstance(part, (ast.Set, ast.SetComp)):
                    above = parents[part]
                    self.assertIsInstance(above, (ast.Call, ast.Compare, ast.BinOp, ast.Assign), name)
                    if isinstance(above, ast.Call):
                        self.assertIn(above.func.id, ("sorted", "len"), name)

    def test_ends_of_texts(self):
        for name, tree in trees():
            for part in ast.walk(tree):
                if isinstance(part, ast.Constant) and isinstance(part.value, str):
                    self.assertFalse(part.value.endswith(("._", ".__")), name)
