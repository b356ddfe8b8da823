"""The form of the code: what of LANGUAGE.md can be told with a few rows."""

import ast
import builtins
import pathlib
import unittest

from wishunseen import errors

PACKAGE = pathlib.Path(__file__).resolve().parent.parent / "wishunseen"
LIBRARY = {
    "math": {"gcd", "lcm", "isqrt", "comb", "perm", "factorial"},
    "itertools": {"product", "combinations", "permutations"},
    "heapq": {"heappush", "heappop", "heapify", "heapreplace", "heappushpop"},
}
BUILTINS = set(
    "len range enumerate zip min max sum abs sorted reversed int str bool list tuple dict set isinstance ord repr any "
    "all divmod ValueError NotImplemented".split()
)
METHODS = set(
    "append clear copy count endswith extend find get index insert isalnum isalpha isdigit islower isspace isupper "
    "items join keys ljust lower lstrip partition pop remove replace reverse rfind rjust rpartition rsplit rstrip "
    "setdefault split splitlines startswith strip update upper values zfill bit_length removeprefix removesuffix "
    "isascii add discard".split()
)
NOT_USED = (
    ast.Global, ast.AsyncFunctionDef, ast.Await, ast.GeneratorExp, ast.AnnAssign, ast.Div, ast.Yield, ast.YieldFrom,
    ast.With, ast.Lambda, ast.Import,
)
SPECIAL = set(
    "__init__ __eq__ __str__ __len__ __bool__ __neg__ __add__ __radd__ __sub__ __rsub__ __mul__ __rmul__".split()
)


def files():
    return sorted(path for path in PACKAGE.rglob("*") if "__pycache__" not in path.parts)


def nodes(*kinds):
    for path in files():
        for node in ast.walk(ast.parse(path.read_text())):
            if isinstance(node, kinds):
                yield path.name, node


class Form(unittest.TestCase):
    def test_files(self):
        for path in files():
            self.assertRegex(path.name, r"\A(__init__|[a-z][a-z0-9_]*)\.py\Z")
            rows = path.read_text().split("\n")
            self.assertLessEqual(len(rows), 400)
            for row in rows:
                self.assertLessEqual(len(row), 120)
                self.assertRegex(row, r"\A[ -~]*\Z")

    def test_functions_are_small(self):
        for name, node in nodes(ast.FunctionDef):
            self.assertLessEqual(node.end_lineno - node.lineno + 1, 40, (name, node.name))
            if node.name.startswith("__"):
                self.assertIn(node.name, SPECIAL, name)
            for decorator in node.decorator_list:
                self.assertIn(ast.unparse(decorator), ("classmethod", "staticmethod", "property"), name)

    def test_imports(self):
        for name, node in nodes(ast.ImportFrom):
            self.assertEqual(node.level, 0)
            self.assertFalse([part for part in node.names if part.asname or part.name == "*"], name)
            if not node.module.startswith("wishunseen."):
                self.assertLessEqual({part.name for part in node.names}, LIBRARY[node.module], name)

    def test_what_is_not_used(self):
        self.assertEqual([(name, node) for name, node in nodes(*NOT_USED)], [])

    def test_only_own_errors_are_caught(self):
        for name, node in nodes(ast.Try):
            self.assertEqual(node.finalbody, [], name)
            for handler in node.handlers:
                self.assertIsInstance(handler.type, ast.Name, name)
                self.assertTrue(issubclass(vars(errors)[handler.type.id], errors.WishError), name)

    def test_builtins(self):
        known = set(dir(builtins)) - {"__name__"}
        for name, node in nodes(ast.Name, ast.arg, ast.FunctionDef, ast.ClassDef):
            if isinstance(node, ast.Name) and isinstance(node.ctx, ast.Load):
                if node.id in known:
                    self.assertIn(node.id, BUILTINS | {"classmethod"}, name)
            elif isinstance(node, ast.Name):
                self.assertNotIn(node.id, known, name)
            else:
                self.assertNotIn(node.arg if isinstance(node, ast.arg) else node.name, known, name)

    def test_methods_of_builtin_values(self):
        known = {method for kind in (str, int, list, tuple, dict, set, bytes) for method in dir(kind)}
        for name, node in nodes(ast.Call):
            if isinstance(node.func, ast.Attribute) and node.func.attr in known:
                self.assertIn(node.func.attr, METHODS, name)

    def test_names_at_module_level(self):
        for path in files():
            body = ast.parse(path.read_text()).body
            imported = [part.name for node in body if isinstance(node, ast.ImportFrom) for part in node.names]
            defined = [node.name for node in body if isinstance(node, (ast.FunctionDef, ast.ClassDef))]
            assigned = [target.id for node in body if isinstance(node, ast.Assign) for target in node.targets]
            self.assertEqual(len({*imported, *defined, *assigned}), len(imported + defined + assigned), path.name)
            tree = ast.parse(path.read_text())
            used = {node.id for node in ast.walk(tree) if isinstance(node, ast.Name)}
            self.assertLessEqual(set(imported), used, path.name)
            inner = {node.arg for node in ast.walk(tree) if isinstance(node, ast.arg)} | {
                node.id for kind in body if isinstance(kind, (ast.FunctionDef, ast.ClassDef))
                for node in ast.walk(kind) if isinstance(node, ast.Name) and isinstance(node.ctx, ast.Store)
            }
            self.assertFalse(inner & {*imported, *defined}, path.name)

    def test_no_two_files_import_from_each_other(self):
        needed = {}
        for name, node in nodes(ast.ImportFrom):
            needed.setdefault(name, set()).add(node.module.rpartition(".")[2] + ".py")
        for name in needed:
            reached, left = set(), {name}
            while left:
                left = {other for one in left for other in needed.get(one, ())} - reached
                reached |= left
            self.assertNotIn(name, reached)

    def test_attributes_are_assigned_and_are_no_methods(self):
        assigned, read = set(), set()
        for _, node in nodes(ast.Attribute):
            (assigned if isinstance(node.ctx, ast.Store) else read).add(node.attr)
        methods = {
            inner.name for _, node in nodes(ast.ClassDef) for inner in node.body if isinstance(inner, ast.FunctionDef)
        }
        self.assertLessEqual(read, assigned | methods | METHODS)
        # The document asks for both: Shelf.at, and the place that errors keep.
        self.assertEqual(methods & assigned, {"at"})

    def test_constants(self):
        for name, node in nodes(ast.Constant):
            self.assertNotIsInstance(node.value, (float, complex, bytes), name)
            if isinstance(node.value, str):
                self.assertNotIn("%", node.value, name)

    def test_each_file_tells_what_it_is(self):
        for path in files():
            self.assertTrue(ast.get_docstring(ast.parse(path.read_text())), path.name)


if __name__ == "__main__":
    unittest.main()
