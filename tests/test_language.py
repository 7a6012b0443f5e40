"""The form of the package's code, as far as it can be told by looking: sizes, signs, imports, builtins, statements."""

import ast
import builtins
import unittest
from pathlib import Path

PACKAGE = Path(__file__).resolve().parent.parent / "wovenframes"

LIBRARY = {
    "heapq": {"heappush", "heappop", "heapify", "heapreplace", "heappushpop"},
    "math": {"gcd", "lcm", "isqrt", "comb", "perm", "factorial"},
    "itertools": {"product", "combinations", "permutations"},
}
BUILTINS = set(
    "len range enumerate zip min max sum abs sorted reversed int str bool bytes list tuple dict set frozenset "
    "isinstance ord repr any all divmod map iter next super property staticmethod classmethod "
    "ValueError KeyError IndexError LookupError ZeroDivisionError TypeError NotImplemented".split()
)
ALL_BUILTINS = set(dir(builtins))
METHODS = set(
    "append clear copy count endswith extend find get index insert isalnum isalpha isdigit islower isspace isupper "
    "items join keys ljust lower lstrip partition pop remove replace reverse rfind rjust rpartition rsplit rstrip "
    "setdefault split splitlines startswith strip update upper values zfill bit_length add discard".split()
)
FORBIDDEN = (
    ast.Global, ast.AsyncFunctionDef, ast.AsyncFor, ast.AsyncWith, ast.Await, ast.Import, ast.Div, ast.MatMult,
)
LISTED_BEFORE_USE = {"any", "all", "min", "max", "sum", "sorted"}


class Language(unittest.TestCase):
    def setUp(self):
        self.files = sorted(PACKAGE.rglob("*.py"))
        self.trees = {path: ast.parse(path.read_text(encoding="utf-8")) for path in self.files}

    def test_the_files(self):
        self.assertIn(PACKAGE / "__init__.py", self.files)
        self.assertLessEqual(len(self.files), 100)
        others = [path for path in PACKAGE.rglob("*") if path.suffix != ".py" and "__pycache__" not in path.parts]
        self.assertEqual(others, [])

    def test_sizes_and_characters(self):
        for path in self.files:
            text = path.read_text(encoding="utf-8")
            lines = text.split("\n")
            self.assertLessEqual(len(lines), 400, path)
            for at, line in enumerate(lines, start=1):
                self.assertLessEqual(len(line), 120, (path, at))
                self.assertTrue(all(" " <= sign <= "~" for sign in line), (path, at))

    def test_functions_are_short(self):
        for path, tree in self.trees.items():
            for node in ast.walk(tree):
                if isinstance(node, ast.FunctionDef):
                    self.assertLessEqual(node.end_lineno - node.lineno + 1, 40, (path, node.name))

    def test_imports(self):
        defined = {
            f"wovenframes.{path.stem}": {
                target for node in tree.body for target in self.names_of(node)
            }
            for path, tree in self.trees.items()
        }
        for path, tree in self.trees.items():
            for node in ast.walk(tree):
                if isinstance(node, ast.ImportFrom):
                    there = defined.get(node.module, LIBRARY.get(node.module, set()))
                    for name in node.names:
                        self.assertIn(name.name, there, (path, node.lineno))
                        self.assertIsNone(name.asname, (path, node.lineno))

    def names_of(self, node):
        if isinstance(node, (ast.FunctionDef, ast.ClassDef)):
            return [node.name]
        if isinstance(node, ast.Assign):
            return [target.id for target in node.targets]
        return []

    def test_imports_are_used_and_bound_once(self):
        for path, tree in self.trees.items():
            imported = [name.name for node in tree.body if isinstance(node, ast.ImportFrom) for name in node.names]
            bound = imported + [name for node in tree.body for name in self.names_of(node)]
            self.assertEqual(len(bound), len(set(bound)), path)
            used = {node.id for node in ast.walk(tree) if isinstance(node, ast.Name)}
            self.assertEqual([name for name in imported if name not in used], [], path)

    def test_no_two_files_import_from_each_other(self):
        behind = {
            path.stem: {
                node.module.split(".")[-1]
                for node in tree.body
                if isinstance(node, ast.ImportFrom) and node.module.startswith("wovenframes.")
            }
            for path, tree in self.trees.items()
        }
        left = dict(behind)
        while left:
            free = [name for name, needed in left.items() if not needed & set(left)]
            self.assertTrue(free, left)
            for name in free:
                del left[name]

    def test_statements_and_values(self):
        for path, tree in self.trees.items():
            for node in ast.walk(tree):
                self.assertNotIsInstance(node, FORBIDDEN, path)
                if isinstance(node, ast.Constant):
                    self.assertNotIsInstance(node.value, (float, complex), (path, node.lineno))

    def test_names(self):
        for path, tree in self.trees.items():
            for node in ast.walk(tree):
                if isinstance(node, ast.Name) and isinstance(node.ctx, ast.Store):
                    self.assertNotIn(node.id, ALL_BUILTINS, (path, node.lineno))
                if isinstance(node, ast.Name) and node.id in ALL_BUILTINS:
                    self.assertIn(node.id, BUILTINS, (path, node.lineno))
                if isinstance(node, ast.arg):
                    self.assertNotIn(node.arg, ALL_BUILTINS, (path, node.lineno))

    def test_no_name_stands_for_an_import_or_a_class_and_something_else(self):
        for path, tree in self.trees.items():
            taken = {name.name for node in tree.body if isinstance(node, ast.ImportFrom) for name in node.names}
            taken |= {node.name for node in tree.body if isinstance(node, (ast.ClassDef, ast.FunctionDef))}
            for node in ast.walk(tree):
                if isinstance(node, ast.Name) and isinstance(node.ctx, ast.Store):
                    self.assertNotIn(node.id, taken, (path, node.lineno))
                if isinstance(node, ast.arg):
                    self.assertNotIn(node.arg, taken, (path, node.lineno))

    def test_sets_are_not_iterated_or_passed_on(self):
        for path, tree in self.trees.items():
            behind = {part: node for node in ast.walk(tree) for part in ast.iter_child_nodes(node)}
            for node in ast.walk(tree):
                named = isinstance(node, ast.Call) and isinstance(node.func, ast.Name) and node.func.id == "set"
                if named or isinstance(node, (ast.Set, ast.SetComp)):
                    around = behind[node]
                    if isinstance(around, ast.Call):
                        self.assertIn(around.func.id, ("sorted", "len"), (path, node.lineno))
                        self.assertEqual(around.keywords, [], (path, node.lineno))
                    else:
                        self.assertIsInstance(around, (ast.Assign, ast.Compare, ast.BinOp), (path, node.lineno))

    def test_products_are_called_plainly(self):
        for path, tree in self.trees.items():
            for node in ast.walk(tree):
                if isinstance(node, ast.Call) and isinstance(node.func, ast.Name):
                    if any(node.func.id in names for names in LIBRARY.values()):
                        self.assertEqual(node.keywords, [], (path, node.lineno))
                        self.assertFalse(any(isinstance(part, ast.Starred) for part in node.args), (path, node.lineno))

    def test_calls(self):
        nodes = [node for tree in self.trees.values() for node in ast.walk(tree)]
        own = {node.name for node in nodes if isinstance(node, ast.FunctionDef)}
        for path, tree in self.trees.items():
            for node in ast.walk(tree):
                if not isinstance(node, ast.Call):
                    continue
                if isinstance(node.func, ast.Attribute):
                    self.assertIn(node.func.attr, METHODS | own, (path, node.lineno))
                # Where a class has an __eq__, these take a list.
                if isinstance(node.func, ast.Name) and node.func.id in LISTED_BEFORE_USE:
                    self.assertFalse(any(isinstance(part, ast.GeneratorExp) for part in node.args), (path, node.lineno))


if __name__ == "__main__":
    unittest.main()
