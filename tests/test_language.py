"""The rules of LANGUAGE.md that can be seen in a single file of the package."""

import ast
import builtins
import pathlib
import re
import unittest

PACKAGE = pathlib.Path(__file__).resolve().parents[1] / "crossundo"

BUILTINS = set("""
    len range enumerate zip min max sum abs sorted reversed int str bool bytes list tuple dict set frozenset isinstance
    ord repr any all divmod iter next super Exception ValueError TypeError KeyError IndexError LookupError
    ZeroDivisionError ArithmeticError OverflowError RuntimeError NotImplementedError AttributeError StopIteration
    NotImplemented property staticmethod classmethod
""".split())
METHODS = set("""
    append clear copy count endswith extend find get index insert isalnum isalpha isdigit islower isspace isupper items
    join keys ljust lower lstrip partition pop remove replace reverse rfind rjust rpartition rsplit rstrip setdefault
    split splitlines startswith strip update upper values zfill bit_length add discard sort
""".split())
WORDS = re.compile(r"\b(type|typing|typing_extensions|enum|Enum|IntEnum|StrEnum|Flag|IntFlag|Generic|Protocol|ABC|ABCMeta"
                   r"|namedtuple|NamedTuple|TypedDict|TYPE_CHECKING|abstractmethod)\b|dataclass|overload|contextmanager")
UNUSED = set("""
    register mro elements open input version_info with_traceback add_note attrgetter breakpoint builtins compile
    copyright credits delattr dir eval exec exit gc getattr globals hasattr help id importlib license locals
    methodcaller os quit setattr type vars sys format format_map
""".split())
SPECIAL = {"__init__", "__eq__", "__repr__", "__str__", "__len__", "__enter__", "__exit__", "__call__", "__iter__"}
BARRED = (ast.Global, ast.AsyncFunctionDef, ast.AsyncFor, ast.AsyncWith, ast.Await, ast.Import, ast.Div, ast.MatMult)
MODULE_ROWS = (ast.Expr, ast.ImportFrom, ast.FunctionDef, ast.ClassDef, ast.Assign)


def names_bound(tree):
    """Return all names that a file defines, imports, assigns or takes as parameters."""
    found = set()
    for node in ast.walk(tree):
        if isinstance(node, (ast.FunctionDef, ast.ClassDef)):
            found.add(node.name)
        elif isinstance(node, ast.ImportFrom):
            found.update(alias.asname or alias.name for alias in node.names)
        elif isinstance(node, ast.Name) and not isinstance(node.ctx, ast.Load):
            found.add(node.id)
        elif isinstance(node, ast.arg):
            found.add(node.arg)
        elif isinstance(node, ast.ExceptHandler) and node.name:
            found.add(node.name)
    return found


def names_at_top(tree):
    """Return the names that stand at module level, once for each time they are bound."""
    found = []
    for node in tree.body:
        if isinstance(node, (ast.FunctionDef, ast.ClassDef)):
            found.append(node.name)
        elif isinstance(node, ast.ImportFrom):
            found.extend(alias.asname or alias.name for alias in node.names)
        elif isinstance(node, ast.Assign):
            found.extend(target.id for target in node.targets)
    return found


def names_imported(tree):
    return {alias.asname or alias.name for node in tree.body if isinstance(node, ast.ImportFrom) for alias in node.names}


def files_imported(tree):
    return {node.module.split(".")[1] for node in tree.body if isinstance(node, ast.ImportFrom)}


def names_inside(tree):
    """Return the parameters, local variables and nested functions of a file."""
    found = set()
    for node in ast.walk(tree):
        if isinstance(node, (ast.FunctionDef, ast.Lambda)):
            for inner in ast.walk(node):
                if isinstance(inner, ast.arg):
                    found.add(inner.arg)
                elif isinstance(inner, ast.Name) and not isinstance(inner.ctx, ast.Load):
                    found.add(inner.id)
                elif isinstance(inner, ast.FunctionDef) and inner is not node:
                    found.add(inner.name)
    return found


class LanguageTest(unittest.TestCase):

    def setUp(self):
        self.files = {path: path.read_text("utf-8") for path in sorted(PACKAGE.glob("*.py"))}
        self.trees = {path: ast.parse(text) for path, text in self.files.items()}

    def nodes(self):
        for path, tree in self.trees.items():
            for node in ast.walk(tree):
                yield f"{path.name}:{getattr(node, 'lineno', 0)}", node

    def test_files(self):
        others = [path.name for path in PACKAGE.iterdir() if path not in self.files and path.name != "__pycache__"]
        self.assertEqual(others, [])
        self.assertIn(PACKAGE / "__init__.py", self.files)
        for path in self.files:
            self.assertRegex(path.stem, r"\A[a-z0-9_]+\Z")

    def test_sizes_and_characters(self):
        for path, text in self.files.items():
            lines = text.split("\n")
            self.assertLessEqual(len(lines), 400, path.name)
            for number, line in enumerate(lines, 1):
                self.assertLessEqual(len(line), 120, f"{path.name}:{number}")
                self.assertRegex(line, r"\A[ -~]*\Z", f"{path.name}:{number}")
                self.assertIsNone(WORDS.search(line), f"{path.name}:{number}")
        for place, node in self.nodes():
            if isinstance(node, ast.FunctionDef):
                self.assertLessEqual(node.end_lineno - node.lineno + 1, 40, place)

    def test_statements_and_expressions(self):
        for place, node in self.nodes():
            self.assertNotIsInstance(node, BARRED, place)
            if isinstance(node, ast.Constant):
                self.assertNotIsInstance(node.value, (float, complex), place)
                self.assertNotIn("%", node.value if isinstance(node.value, str) else "", place)
            if isinstance(node, ast.Compare):
                for sign, right in zip(node.ops, node.comparators):
                    if isinstance(sign, (ast.Is, ast.IsNot)):
                        self.assertIn(ast.unparse(right), ("None", "True", "False"), place)

    def test_module_level(self):
        for path, tree in self.trees.items():
            top = names_at_top(tree)
            self.assertEqual(len(top), len(set(top)), path.name)
            for node in tree.body:
                self.assertIsInstance(node, MODULE_ROWS, f"{path.name}:{node.lineno}")

    def test_imports_name_the_file_that_defines(self):
        for place, node in self.nodes():
            if isinstance(node, ast.ImportFrom):
                self.assertRegex(node.module or "", r"\Acrossundo\.[a-z]+\Z", place)
                tree = self.trees[PACKAGE / (node.module.split(".")[1] + ".py")]
                defined = [name.name for name in tree.body if isinstance(name, (ast.FunctionDef, ast.ClassDef))]
                defined.extend(target.id for row in tree.body if isinstance(row, ast.Assign) for target in row.targets)
                for alias in node.names:
                    self.assertIn(alias.name, defined, place)

    def test_names(self):
        for path, tree in self.trees.items():
            for name in names_bound(tree):
                if name not in SPECIAL:
                    self.assertRegex(name, r"\A[A-Za-z][A-Za-z0-9_]*\Z", path.name)
                self.assertNotIn(name, UNUSED.union(dir(builtins)) - SPECIAL, path.name)

    def test_no_local_name_is_an_import_a_class_or_a_function(self):
        for path, tree in self.trees.items():
            top = {node.name for node in tree.body if isinstance(node, (ast.ClassDef, ast.FunctionDef))}
            self.assertEqual(names_inside(tree) & (names_imported(tree) | top), set(), path.name)

    def test_no_two_files_import_from_each_other(self):
        imported = {path.stem: files_imported(tree) for path, tree in self.trees.items()}
        while imported:
            free = [name for name, others in imported.items() if not others & set(imported)]
            self.assertTrue(free, imported)
            imported = {name: others for name, others in imported.items() if name not in free}

    def test_imports_stand_at_the_top(self):
        for path, tree in self.trees.items():
            places = [at for at, node in enumerate(tree.body) if isinstance(node, ast.ImportFrom)]
            self.assertEqual(places, list(range(1, len(places) + 1)), path.name)

    def test_methods_and_attributes(self):
        methods = set()
        stored = set()
        read = set()
        for _, node in self.nodes():
            if isinstance(node, ast.ClassDef):
                names = [row.name for row in node.body if isinstance(row, ast.FunctionDef)]
                self.assertEqual(len(names), len(set(names)), node.name)
                methods.update(names)
        called = {node.func for _, node in self.nodes() if isinstance(node, ast.Call)}
        for _, node in self.nodes():
            if isinstance(node, ast.Attribute):
                if isinstance(node.ctx, ast.Store):
                    stored.add(node.attr)
                elif node not in called:
                    read.add(node.attr)
        self.assertEqual(methods & stored, set())
        self.assertEqual(read - stored, set())
        builtin = {name for value in ("", 0, [], {}, set(), b"") for name in dir(value)} - {"__init__"}
        self.assertEqual((methods | stored) & builtin, set())

    def test_builtins_and_methods(self):
        own = {node.name for _, node in self.nodes() if isinstance(node, ast.FunctionDef)}
        for path, tree in self.trees.items():
            known = names_bound(tree) | BUILTINS
            for node in ast.walk(tree):
                if isinstance(node, ast.Name):
                    self.assertIn(node.id, known, f"{path.name}:{node.lineno}")
                if isinstance(node, ast.Call) and isinstance(node.func, ast.Attribute):
                    self.assertIn(node.func.attr, METHODS | own, f"{path.name}:{node.lineno}")


if __name__ == "__main__":
    unittest.main()
