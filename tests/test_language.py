"""The plainest of the rules that the files of the package keep to: sizes, signs, names, imports."""

import ast
import builtins
import pathlib
import re
import unittest
import warnings

PACKAGE = pathlib.Path(__file__).resolve().parent.parent / "toldwhat"
LIBRARY = {
    "heapq": {"heappush", "heappop", "heapify", "heapreplace", "heappushpop"},
    "math": {"gcd", "lcm", "isqrt", "comb", "perm", "factorial"},
    "itertools": {
        "product", "combinations", "permutations", "chain", "accumulate", "pairwise", "islice", "zip_longest",
    },
    "collections": {"defaultdict", "deque"},
}
CALLED = {
    "len", "range", "enumerate", "zip", "min", "max", "sum", "abs", "sorted", "reversed", "int", "str", "bool", "list",
    "tuple", "dict", "set", "isinstance", "ord", "repr", "any", "all", "divmod", "pow", "iter", "next", "map", "super",
    "property", "ValueError", "KeyError", "StopIteration", "NotImplemented",
}
SLOTS = {"__init__", "__eq__", "__repr__", "__str__", "__len__", "__enter__", "__exit__", "__call__", "__iter__"}
METHODS = set(
    "append clear copy count endswith extend find get index insert isalnum isalpha isdigit islower isspace isupper items"
    " join keys ljust lower lstrip partition pop remove replace reverse rfind rjust rpartition rsplit rstrip setdefault"
    " split splitlines startswith strip update upper values zfill bit_length".split()
)
BARRED = {"register", "mro", "elements", "open", "input", "law", "version_info", "with_traceback", "add_note"}


def bound_names(tree):
    """All names that a file gives to something, but not those of methods and attributes."""
    methods = {id(part) for node in ast.walk(tree) if isinstance(node, ast.ClassDef) for part in node.body}
    for node in ast.walk(tree):
        if isinstance(node, (ast.FunctionDef, ast.ClassDef)) and id(node) not in methods:
            yield node.name
        elif isinstance(node, ast.arg):
            yield node.arg
        elif isinstance(node, ast.Name) and isinstance(node.ctx, ast.Store):
            yield node.id
        elif isinstance(node, ast.ExceptHandler) and node.name:
            yield node.name


class TestLanguage(unittest.TestCase):
    def setUp(self):
        self.files = {}
        for path in sorted(PACKAGE.rglob("*.py")):
            text = path.read_text(encoding="utf-8")
            self.files[path.name] = (text, ast.parse(text))
        self.nodes = [(name, node) for name, (_, tree) in self.files.items() for node in ast.walk(tree)]

    def test_nothing_but_files(self):
        for path in PACKAGE.iterdir():
            if path.name != "__pycache__":
                self.assertRegex(path.name, r"^[a-z_][a-z0-9_]*\.py$")
        self.assertIn("__init__.py", self.files)

    def test_sizes(self):
        for name, (text, _) in self.files.items():
            lines = text.split("\n")
            self.assertLessEqual(len(lines), 400, name)
            for number, line in enumerate(lines, start=1):
                self.assertLessEqual(len(line), 120, (name, number))
        for name, node in self.nodes:
            if isinstance(node, ast.FunctionDef):
                self.assertLessEqual(node.end_lineno - node.lineno + 1, 40, (name, node.name))

    def test_signs(self):
        for name, (text, _) in self.files.items():
            self.assertIsNone(re.search("[^ -~\n]", text), name)

    def test_no_warnings(self):
        for name, (text, _) in self.files.items():
            with warnings.catch_warnings():
                warnings.simplefilter("error")
                compile(text, name, "exec")

    def test_imports(self):
        for name, node in self.nodes:
            self.assertNotIsInstance(node, ast.Import, name)
            if isinstance(node, ast.ImportFrom):
                words = {alias.name for alias in node.names}
                self.assertEqual(node.level, 0, name)
                self.assertNotIn("*", words, name)
                if not node.module.startswith("toldwhat."):
                    self.assertLessEqual(words, LIBRARY.get(node.module, set()), name)

    def test_names(self):
        for name, (_, tree) in self.files.items():
            for word in bound_names(tree):
                self.assertNotIn(word, dir(builtins), name)
                self.assertNotIn(word, BARRED, name)
                self.assertRegex(word, r"^(_|_?[A-Za-z][A-Za-z0-9_]*)$", name)
        for name, node in self.nodes:
            if isinstance(node, ast.Name) and node.id in dir(builtins):
                self.assertIn(node.id, CALLED, (name, node.lineno))
            if isinstance(node, ast.FunctionDef) and node.name.startswith("__"):
                self.assertIn(node.name, SLOTS, name)

    def test_own_names(self):
        for name, (_, tree) in self.files.items():
            imported = {alias.name for node in tree.body if isinstance(node, ast.ImportFrom) for alias in node.names}
            classes = {node.name for node in tree.body if isinstance(node, ast.ClassDef)}
            functions = [node.name for node in tree.body if isinstance(node, ast.FunctionDef)]
            values = [target.id for node in tree.body if isinstance(node, ast.Assign) for target in node.targets]
            bound = [*imported, *classes, *functions, *values]
            self.assertEqual(len(bound), len(set(bound)), name)
            read = {node.id for node in ast.walk(tree) if isinstance(node, ast.Name) and isinstance(node.ctx, ast.Load)}
            self.assertLessEqual(imported, read, name)
            for part in [part for part in tree.body if isinstance(part, (ast.FunctionDef, ast.ClassDef))]:
                for node in ast.walk(part):
                    if isinstance(node, ast.arg):
                        self.assertNotIn(node.arg, imported | classes, (name, node.lineno))
                    if isinstance(node, ast.Name) and isinstance(node.ctx, ast.Store):
                        self.assertNotIn(node.id, imported | classes, (name, node.lineno))

    def test_imports_of_each_other(self):
        ways = {}
        for name, (_, tree) in self.files.items():
            rows = [node.module for node in tree.body if isinstance(node, ast.ImportFrom)]
            ways[name] = {row.removeprefix("toldwhat.") + ".py" for row in rows if row.startswith("toldwhat.")}
        done = set()
        while len(done) < len(ways):
            free = {name for name in ways if ways[name] <= done} - done
            self.assertTrue(free, set(ways) - done)
            done |= free

    def test_decorators(self):
        for name, node in self.nodes:
            if isinstance(node, ast.ClassDef):
                self.assertEqual(node.decorator_list, [], name)
            if isinstance(node, ast.FunctionDef):
                words = [word.id for word in node.decorator_list if isinstance(word, ast.Name)]
                self.assertEqual(len(words), len(node.decorator_list), (name, node.name))
                self.assertLessEqual(set(words), {"property"}, (name, node.name))

    def test_methods_that_are_called(self):
        classes = [node for _, node in self.nodes if isinstance(node, ast.ClassDef)]
        own = {part.name for node in classes for part in node.body if isinstance(part, ast.FunctionDef)}
        for name, node in self.nodes:
            if isinstance(node, ast.Call) and isinstance(node.func, ast.Attribute):
                self.assertIn(node.func.attr, METHODS | own, (name, node.lineno))
                if node.func.attr in METHODS:
                    self.assertEqual(node.keywords, [], (name, node.lineno))

    def test_classes(self):
        for name, node in self.nodes:
            if isinstance(node, ast.ClassDef):
                methods = {part.name for part in node.body if isinstance(part, ast.FunctionDef)}
                stored = {
                    part.attr for part in ast.walk(node)
                    if isinstance(part, ast.Attribute) and isinstance(part.ctx, ast.Store)
                }
                self.assertEqual(methods & stored, set(), (name, node.name))
                self.assertEqual(methods & METHODS, set(), (name, node.name))

    def test_values(self):
        # A set is not kept here, only measured or sorted where it is written.
        measured = {
            id(part) for _, node in self.nodes if isinstance(node, ast.Call) and isinstance(node.func, ast.Name)
            and node.func.id in ("len", "sorted") for part in node.args
        }
        for name, node in self.nodes:
            if isinstance(node, ast.Compare):
                for sign, right in zip(node.ops, node.comparators):
                    if isinstance(sign, (ast.Is, ast.IsNot)):
                        self.assertIsInstance(right, ast.Constant, (name, node.lineno))
            if isinstance(node, ast.Constant):
                self.assertNotIsInstance(node.value, (float, complex), (name, node.lineno))
                if isinstance(node.value, str):
                    self.assertNotIn("%", node.value, (name, node.lineno))
            if isinstance(node, (ast.Set, ast.SetComp)):
                self.assertIn(id(node), measured, (name, node.lineno))
            barred = (ast.Div, ast.GeneratorExp, ast.Global, ast.AsyncFunctionDef, ast.Await, ast.MatMult, ast.Import)
            self.assertNotIsInstance(node, barred, name)


if __name__ == "__main__":
    unittest.main()
