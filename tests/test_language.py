"""The package's files against those of the language's rules that a walk over the code can see."""

import ast
import re
import unittest
from pathlib import Path

PACKAGE = Path(__file__).resolve().parent.parent / "headroad"

STATEMENTS = (
    ast.FunctionDef, ast.ClassDef, ast.ImportFrom, ast.Assign, ast.AugAssign, ast.If, ast.While, ast.For, ast.Return,
    ast.Break, ast.Continue, ast.Pass, ast.Raise, ast.Try, ast.Expr,
)
OUTSIDE = (
    ast.GeneratorExp, ast.SetComp, ast.DictComp, ast.NamedExpr, ast.Starred, ast.Await, ast.Yield, ast.YieldFrom,
    ast.Div, ast.MatMult, ast.AnnAssign,
)
PYTHONS_OWN = set(
    "len range enumerate zip min max sum abs sorted reversed int str bool list tuple dict set frozenset isinstance "
    "ord repr any all divmod Exception ValueError TypeError KeyError IndexError LookupError ZeroDivisionError "
    "ArithmeticError OverflowError RuntimeError NotImplementedError AttributeError StopIteration".split()
)
METHODS = set(
    "append clear copy count endswith extend find get index insert isalnum isalpha isdigit islower isspace isupper "
    "items join keys ljust lower lstrip partition pop remove replace reverse rfind rjust rpartition rsplit rstrip "
    "setdefault split splitlines startswith strip update upper values zfill bit_length".split()
)
TWO_UNDERSCORES = {"__init__", "__eq__", "__repr__", "__str__", "__len__"}
WORDS = re.compile(
    r"\b(type|typing|typing_extensions|enum|Enum|IntEnum|StrEnum|Flag|IntFlag|Generic|Protocol|ABC|ABCMeta|namedtuple"
    r"|NamedTuple|TypedDict|TYPE_CHECKING|abstractmethod)\b|dataclass|overload|contextmanager"
)


def package_files():
    return sorted(path for path in PACKAGE.rglob("*.py"))


def trees():
    return [(path, ast.parse(path.read_text("ascii"))) for path in package_files()]


def nodes():
    return [(path, node) for path, tree in trees() for node in ast.walk(tree)]


def bound_names(tree):
    names = set()
    for node in ast.walk(tree):
        if isinstance(node, (ast.FunctionDef, ast.ClassDef)):
            names.add(node.name)
        if isinstance(node, ast.arg):
            names.add(node.arg)
        if isinstance(node, ast.alias):
            names.add(node.asname or node.name)
        if isinstance(node, ast.Name) and isinstance(node.ctx, ast.Store):
            names.add(node.id)
        if isinstance(node, ast.ExceptHandler) and node.name:
            names.add(node.name)
    return names


class Files(unittest.TestCase):
    def test_the_folder_holds_plain_files_alone(self):
        names = [path.name for path in PACKAGE.iterdir() if path.name != "__pycache__"]
        self.assertIn("__init__.py", names)
        for name in names:
            self.assertRegex(name, r"^([a-z][a-z0-9_]*|__init__)\.py$")

    def test_signs_lines_and_words(self):
        for path in package_files():
            text = path.read_bytes().decode("ascii")
            lines = text.split("\n")
            self.assertLessEqual(len(lines), 401, path)
            for number, line in enumerate(lines, start=1):
                with self.subTest(path=path.name, line=number):
                    self.assertRegex(line, r"^[ -~]{0,120}$")
                    self.assertIsNone(WORDS.search(line))

    def test_functions_are_short(self):
        for path, node in nodes():
            if isinstance(node, ast.FunctionDef):
                self.assertLessEqual(node.end_lineno - node.lineno + 1, 40, f"{path.name} {node.name}")


class Imports(unittest.TestCase):
    def test_only_names_from_the_very_file_that_defines_them(self):
        for path, node in nodes():
            if isinstance(node, ast.ImportFrom):
                self.assertEqual(node.level, 0)
                self.assertRegex(node.module, r"^headroad\.[a-z_]+$")
                source = ast.parse((PACKAGE / f"{node.module.split('.')[1]}.py").read_text("ascii"))
                defined = [part.name for part in source.body if isinstance(part, (ast.FunctionDef, ast.ClassDef))]
                for alias in node.names:
                    self.assertIn(alias.name, defined, path.name)

    def test_no_two_files_draw_from_one_another(self):
        draws = {path.stem: [] for path in package_files()}
        for path, node in nodes():
            if isinstance(node, ast.ImportFrom):
                draws[path.stem].append(node.module.split(".")[1])
        settled = set()
        while len(settled) < len(draws):
            ready = [name for name in draws if name not in settled and settled.issuperset(draws[name])]
            self.assertTrue(ready, "files draw from one another in a ring")
            settled.update(ready)


class Code(unittest.TestCase):
    def test_statements(self):
        for path, node in nodes():
            with self.subTest(path=path.name, line=getattr(node, "lineno", 0)):
                if isinstance(node, ast.stmt):
                    self.assertIsInstance(node, STATEMENTS)
                if isinstance(node, (ast.For, ast.While)):
                    self.assertEqual(node.orelse, [])
                if isinstance(node, ast.Try):
                    self.assertEqual(node.finalbody, [])
                if isinstance(node, ast.Assign):
                    self.assertEqual(len(node.targets), 1)
                    self.assertNotIsInstance(node.targets[0], (ast.Tuple, ast.List))

    def test_a_text_stands_alone_only_at_a_files_top(self):
        for path, tree in trees():
            for node in ast.walk(tree):
                if isinstance(node, ast.Expr) and node is not tree.body[0]:
                    self.assertIsInstance(node.value, ast.Call, f"{path.name} line {node.lineno}")

    def test_functions_and_classes_are_plain(self):
        for path, node in nodes():
            if isinstance(node, ast.FunctionDef):
                self.assertEqual(node.decorator_list, [])
                arguments = node.args
                self.assertEqual((arguments.vararg, arguments.kwarg), (None, None))
                self.assertEqual((arguments.kwonlyargs, arguments.posonlyargs), ([], []))
            if isinstance(node, ast.ClassDef):
                self.assertEqual(node.decorator_list, [])
                self.assertLessEqual(len(node.bases), 1)
                self.assertEqual(node.keywords, [])
                for part in node.body:
                    self.assertIsInstance(part, (ast.FunctionDef, ast.Pass))

    def test_expressions(self):
        for path, node in nodes():
            with self.subTest(path=path.name, line=getattr(node, "lineno", 0)):
                self.assertNotIsInstance(node, OUTSIDE)
                if isinstance(node, ast.Constant):
                    self.assertIn(type(node.value), (int, str, bool, type(None)))
                    self.assertNotIn("%", str(node.value))
                if isinstance(node, ast.BinOp) and isinstance(node.op, ast.Pow):
                    self.assertIsInstance(node.right, ast.Constant)
                if isinstance(node, ast.Compare) and isinstance(node.ops[0], (ast.Is, ast.IsNot)):
                    self.assertIn(ast.unparse(node.comparators[0]), ("None", "True", "False"))

    def test_names(self):
        for path, tree in trees():
            bound = bound_names(tree)
            self.assertEqual(bound & PYTHONS_OWN, set(), path.name)
            for name in bound - TWO_UNDERSCORES:
                self.assertRegex(name, r"^[A-Za-z][A-Za-z0-9_]*$")
            for node in ast.walk(tree):
                if isinstance(node, ast.Name):
                    self.assertIn(node.id, bound | PYTHONS_OWN, path.name)

    def test_methods(self):
        own = {node.name for path, node in nodes() if isinstance(node, ast.FunctionDef)}
        for path, node in nodes():
            if isinstance(node, ast.Call) and isinstance(node.func, ast.Attribute):
                self.assertIn(node.func.attr, METHODS | own, path.name)


if __name__ == "__main__":
    unittest.main()
