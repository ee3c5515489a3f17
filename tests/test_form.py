"""The form of the package's files, as far as a plain look at them tells it."""

import ast
import builtins
import pathlib
import re
import unittest

PACKAGE = pathlib.Path(__file__).resolve().parent.parent / "longways"
FILES = sorted(path for path in PACKAGE.rglob("*") if path.is_file() and "__pycache__" not in path.parts)
OWN_NAMES = set((
    "len range enumerate zip min max sum abs sorted reversed int str bool bytes list tuple dict set frozenset "
    "isinstance ord repr any all divmod Exception ValueError TypeError KeyError IndexError LookupError "
    "ZeroDivisionError ArithmeticError OverflowError RuntimeError NotImplementedError AttributeError StopIteration"
).split())
BARRED_WORDS = re.compile(
    r"\b(type|typing|typing_extensions|enum|Enum|IntEnum|StrEnum|Flag|IntFlag|Generic|Protocol|ABC|ABCMeta|namedtuple"
    r"|NamedTuple|TypedDict|TYPE_CHECKING|abstractmethod)\b|dataclass|overload|contextmanager"
)
BARRED_NODES = (
    ast.With, ast.AsyncWith, ast.AsyncFor, ast.AsyncFunctionDef, ast.Await, ast.Match, ast.Global, ast.Nonlocal,
    ast.Yield, ast.YieldFrom, ast.GeneratorExp, ast.NamedExpr, ast.Div, ast.Import, ast.MatMult,
)
TREES = {path.name: ast.parse(path.read_text()) for path in FILES}
NODES = [(name, node) for name, tree in TREES.items() for node in ast.walk(tree)]
PYTHONS_METHODS = set((
    "append clear copy count endswith extend find get index insert isalnum isalpha isdigit islower isspace isupper "
    "items join keys ljust lower lstrip partition pop remove replace reverse rfind rjust rpartition rsplit rstrip "
    "setdefault split splitlines startswith strip update upper values zfill bit_length add discard"
).split())
PYTHONS_VALUES = (str, int, list, tuple, dict, set, bytes)
METHODS = {
    method.name for name, node in NODES if isinstance(node, ast.ClassDef) for method in node.body
    if isinstance(method, ast.FunctionDef)
}
VALUES = {node.attr for name, node in NODES if isinstance(node, ast.Attribute) and isinstance(node.ctx, ast.Store)}
TOP_NODES = (ast.Expr, ast.ImportFrom, ast.FunctionDef, ast.ClassDef, ast.Assign)


def top_names(tree):
    """The names that the top of a file binds."""
    names = []
    for node in tree.body:
        if isinstance(node, ast.ImportFrom):
            names += [alias.name for alias in node.names]
        if isinstance(node, (ast.FunctionDef, ast.ClassDef)):
            names.append(node.name)
        if isinstance(node, ast.Assign):
            names += [target.id for target in node.targets]
    return names


def given_names(top):
    """The parameters and locals within a def or a class of a file's top."""
    stored = [node.id for node in ast.walk(top) if isinstance(node, ast.Name) and isinstance(node.ctx, ast.Store)]
    return stored + [node.arg for node in ast.walk(top) if isinstance(node, ast.arg)]


def drawn_files(tree):
    return {node.module for node in tree.body if isinstance(node, ast.ImportFrom)}


class Form(unittest.TestCase):
    def test_files(self):
        self.assertIn(PACKAGE / "__init__.py", FILES)
        for path in FILES:
            self.assertRegex(path.name, r"^[a-z0-9_]+\.py$")

    def test_rows_and_signs(self):
        for path in FILES:
            with self.subTest(path.name):
                text = path.read_text()
                self.assertEqual([sign for sign in text if sign != "\n" and not " " <= sign <= "~"], [])
                self.assertLessEqual(len(text.splitlines()), 400)
                self.assertLessEqual(max(map(len, text.splitlines()), default=0), 120)
                self.assertIsNone(BARRED_WORDS.search(text))

    def test_top_of_each_file(self):
        for name, tree in TREES.items():
            self.assertEqual([node for node in tree.body if not isinstance(node, TOP_NODES)], [], name)
            self.assertIsNotNone(ast.get_docstring(tree), name)

    def test_statements_and_expressions(self):
        for name, node in NODES:
            self.assertNotIsInstance(node, BARRED_NODES, name)
            if isinstance(node, (ast.FunctionDef, ast.ClassDef)):
                self.assertEqual(node.decorator_list, [], name)
            if isinstance(node, ast.FunctionDef):
                self.assertLessEqual(node.end_lineno - node.lineno + 1, 40, (name, node.name))
            if isinstance(node, ast.Constant):
                self.assertNotIsInstance(node.value, (float, complex), name)

    def test_imports_draw_from_the_package_alone(self):
        for name, node in NODES:
            if isinstance(node, ast.ImportFrom):
                self.assertEqual((node.level, node.module.partition(".")[0]), (0, "longways"), name)
                self.assertNotIn("*", [drawn.name for drawn in node.names], name)

    def test_names_of_pythons_own(self):
        for name, node in NODES:
            if isinstance(node, ast.Name) and hasattr(builtins, node.id):
                self.assertIn(node.id, OWN_NAMES, name)
                self.assertIsInstance(node.ctx, ast.Load, (name, node.id))
            if isinstance(node, ast.arg):
                self.assertFalse(hasattr(builtins, node.arg), (name, node.arg))

    def test_each_name_means_one_thing_in_its_file(self):
        for name, tree in TREES.items():
            tops = top_names(tree)
            self.assertEqual(sorted(set(tops)), sorted(tops), name)
            drawn = [alias.name for node in tree.body if isinstance(node, ast.ImportFrom) for alias in node.names]
            classes = [node.name for node in tree.body if isinstance(node, ast.ClassDef)]
            given = [word for node in tree.body if not isinstance(node, ast.Assign) for word in given_names(node)]
            self.assertEqual(set(drawn + classes) & set(given), set(), name)
            self.assertEqual([word for word in tops + given if word.startswith("_")], [], name)

    def test_no_two_files_draw_from_one_another(self):
        draws = {f"longways.{name[:-3]}": drawn_files(tree) for name, tree in TREES.items()}
        left = set(draws)
        while left:
            free = {name for name in left if not draws[name] & left}
            self.assertTrue(free, sorted(left))
            left -= free

    def test_methods_and_values(self):
        self.assertEqual(METHODS & VALUES, set())
        two_underscores = {name for name in METHODS if name.startswith("_")}
        self.assertEqual(two_underscores - {"__init__", "__eq__", "__repr__", "__str__", "__len__"}, set())
        pythons = {name for kind in PYTHONS_VALUES for name in dir(kind)}
        self.assertEqual((METHODS - two_underscores - PYTHONS_METHODS) & pythons, set())
        self.assertEqual(VALUES & pythons, set())

    def test_what_is_asked_and_called_of_things(self):
        called = [node.func for name, node in NODES if isinstance(node, ast.Call)]
        for name, node in NODES:
            if isinstance(node, ast.Attribute) and node in called:
                self.assertIn(node.attr, METHODS | PYTHONS_METHODS, name)
            elif isinstance(node, ast.Attribute):
                self.assertIn(node.attr, VALUES, name)

    def test_handlers_take_refusals_by_their_names(self):
        refusals = {node.name for node in TREES["errors.py"].body if isinstance(node, ast.ClassDef)}
        for name, node in NODES:
            if isinstance(node, ast.ExceptHandler):
                self.assertIn(node.type.id, refusals, name)
            if isinstance(node, ast.Raise):
                self.assertIn(node.exc.func.id, refusals, name)

    def test_texts(self):
        for name, node in NODES:
            if isinstance(node, ast.Constant) and isinstance(node.value, str):
                self.assertNotIn("%", node.value, name)


if __name__ == "__main__":
    unittest.main()
