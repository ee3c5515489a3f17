"""The form of the package's files, as far as a plain look at them tells it."""

import ast
import builtins
import pathlib
import re
import unittest

PACKAGE = pathlib.Path(__file__).resolve().parent.parent / "longways"
FILES = sorted(path for path in PACKAGE.rglob("*") if path.is_file() and "__pycache__" not in path.parts)
OWN_NAMES = set((
    "len range enumerate zip min max sum abs sorted reversed int str bool bytes list tuple dict set frozenset "
    "isinstance ord repr any all divmod Exception ValueError TypeError KeyError IndexError LookupError "
    "ZeroDivisionError ArithmeticError OverflowError RuntimeError NotImplementedError AttributeError StopIteration"
).split())
BARRED_WORDS = re.compile(
    r"\b(type|typing|typing_extensions|enum|Enum|IntEnum|StrEnum|Flag|IntFlag|Generic|Protocol|ABC|ABCMeta|namedtuple"
    r"|NamedTuple|TypedDict|TYPE_CHECKING|abstractmethod)\b|dataclass|overload|contextmanager"
)
BARRED_NODES = (
    ast.With, ast.AsyncWith, ast.AsyncFor, ast.AsyncFunctionDef, ast.Await, ast.Match, ast.Global, ast.Nonlocal,
    ast.Yield, ast.YieldFrom, ast.GeneratorExp, ast.NamedExpr, ast.Div, ast.Import, ast.MatMult,
)
TREES = {path.name: ast.parse(path.read_text()) for path in FILES}
NODES = [(name, node) for name, tree in TREES.items() for node in ast.walk(tree)]
TOP_NODES = (ast.Expr, ast.ImportFrom, ast.FunctionDef, ast.ClassDef, ast.Assign)


def top_names(tree):
    """The names that the top of a file binds."""
    names = []
    for node in tree.body:
        if isinstance(node, ast.ImportFrom):
            names += [alias.name for alias in node.names]
        if isinstance(node, (ast.FunctionDef, ast.ClassDef)):
            names.append(node.name)
        if isinstance(node, ast.Assign):
            names += [target.id for target in node.targets]
    return names


def given_names(top):
    """The parameters and locals within a def or a class of a file's top."""
    stored = [node.id for node in ast.walk(top) if isinstance(node, ast.Name) and isinstance(node.ctx, ast.Store)]
    return stored + [node.arg for node in ast.walk(top) if isinstance(node, ast.arg)]


def drawn_files(tree):
    return {node.module for node in tree.body if isinstance(node, ast.ImportFrom)}


class Form(unittest.TestCase):
    def test_files(self):
        self.assertIn(PACKAGE / "__init__.py", FILES)
        for path in FILES:
            self.assertRegex(path.name, r"^[a-z0-9_]+\.py$")

    def test_rows_and_signs(self):
        for path in FILES:
            with self.subTest(path.name):
                text = path.read_text()
                self.assertEqual([sign for sign in text if sign != "\n" and not " " <= sign <= "~"], [])
                self.assertLessEqual(len(text.splitlines()), 400)
                self.assertLessEqual(max(map(len, text.splitlines()), default=0), 120)
                self.assertIsNone(BARRED_WORDS.search(text))

    def test_top_of_each_file(self):
        for name, tree in TREES.items():
            self.assertEqual([node for node in tree.body if not isinstance(node, TOP_NODES)], [], name)
            self.assertIsNotNone(ast.get_docstring(tree), name)

    def test_statements_and_expressions(self):
        for name, node in NODES:
            self.assertNotIsInstance(node, BARRED_NODES, name)
            if isinstance(node, (ast.FunctionDef, ast.ClassDef)):
                self.assertEqual(node.decorator_list, [], name)
            if isinstance(node, ast.FunctionDef):
                self.assertLessEqual(node.end_lineno - node.lineno + 1, 40, (name, node.name))
            if isinstance(node, ast.Constant):
                self.assertNotIsInstance(node.value, (float, complex), name)

    def test_imports_draw_from_the_package_alone(self):
        for name, node in NODES:
            if isinstance(node, ast.ImportFrom):
                self.assertEqual((node.level, node.module.partition(".")[0]), (0, "longways"), name)
                self.assertNotIn("*", [drawn.name for drawn in node.names], name)

    def test_names_of_pythons_own(self):
        for name, node in NODES:
            if isinstance(node, ast.Name) and hasattr(builtins, node.id):
                self.assertIn(node.id, OWN_NAMES, name)
                self.assertIsInstance(node.ctx, ast.Load, (name, node.id))
            if isinstance(node, ast.arg):
                self.assertFalse(hasattr(builtins, node.arg), (name, node.arg))

    def test_each_name_means_one_thing_in_its_file(self):
        for name, tree in TREES.items():
            tops = top_names(tree)
            self.assertEqual(sorted(set(tops)), sorted(tops), name)
            drawn = [alias.name for node in tree.body if isinstance(node, ast.ImportFrom) for alias in node.names]
            classes = [node.name for node in tree.body if isinstance(node, ast.ClassDef)]
            given = [word for node in tree.body if not isinstance(node, ast.Assign) for word in given_names(node)]
            self.assertEqual(set(drawn + classes) & set(given), set(), name)
            self.assertEqual([word for word in tops + given if word.startswith("_")], [], name)

    def test_no_two_files_draw_from_one_another(self):
        draws = {f"longways.{name[:-3]}": drawn_files(tree) for name, tree in TREES.items()}
        left = set(draws)
        while left:
            free = {name for name in left if not draws[name] & left}
            self.assertTrue(free, sorted(left))
            left -= free

    def test_texts(self):
        for name, node in NODES:
            if isinstance(node, ast.Constant) and isinstance(node.value, str):
                self.assertNotIn("%", node.value, name)


if __name__ == "__main__":
    unittest.main()
