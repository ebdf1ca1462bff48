"""The rules of the program's language that can be seen in its text alone; each test names its rules."""
import ast
import builtins
import pathlib
import re
import unittest

PACKAGE = pathlib.Path(__file__).resolve().parent.parent / "frameland"
METHODS = {"__init__", "__eq__", "__repr__", "__str__", "__len__"}
OWN_NAMES = set(
    "len range enumerate zip min max sum abs sorted reversed int str bool list tuple dict set frozenset isinstance "
    "ord repr any all divmod Exception ValueError TypeError KeyError IndexError LookupError ZeroDivisionError "
    "ArithmeticError OverflowError RuntimeError NotImplementedError StopIteration".split()
)
STATEMENTS = (
    ast.Assign, ast.AugAssign, ast.If, ast.While, ast.For, ast.Return, ast.Break, ast.Continue, ast.Pass, ast.Raise,
    ast.Try, ast.Expr, ast.FunctionDef, ast.ClassDef, ast.ImportFrom,
)
RULED_OUT = (
    ast.Starred, ast.NamedExpr, ast.SetComp, ast.DictComp, ast.GeneratorExp, ast.Div, ast.MatMult, ast.Yield,
    ast.YieldFrom, ast.Await,
)
WORDS = re.compile(
    r"\b(type|typing|typing_extensions|enum|Enum|IntEnum|StrEnum|Flag|IntFlag|Generic|Protocol|ABC|ABCMeta|namedtuple"
    r"|NamedTuple|TypedDict|TYPE_CHECKING|abstractmethod)\b|dataclass|overload|contextmanager"
)


def bound_names(tree):
    for node in ast.walk(tree):
        if isinstance(node, ast.Name) and isinstance(node.ctx, ast.Store):
            yield node.id
        elif isinstance(node, ast.Attribute):
            yield node.attr
        elif isinstance(node, ast.arg):
            yield node.arg
        elif isinstance(node, (ast.FunctionDef, ast.ClassDef)) and node.name not in METHODS:
            yield node.name


def top_names(tree):
    names = []
    for node in tree.body:
        if isinstance(node, (ast.FunctionDef, ast.ClassDef)):
            names.append(node.name)
        elif isinstance(node, ast.Assign):
            names.extend(target.id for target in node.targets)
    return names


class LanguageTest(unittest.TestCase):
    def setUp(self):
        self.texts = {path.stem: path.read_bytes().decode("ascii") for path in sorted(PACKAGE.glob("*.py"))}
        self.trees = {stem: ast.parse(text) for stem, text in self.texts.items()}

    def nodes(self):
        return [(stem, node) for stem, tree in self.trees.items() for node in ast.walk(tree)]

    def test_files(self):  # L1, L14
        for path in PACKAGE.iterdir():
            if path.name != "__pycache__":
                self.assertRegex(path.name, r"^(__init__|__main__|[a-z][a-z0-9_]*)\.py$")
        self.assertIn("__init__", self.texts)

    def test_signs_and_sizes(self):  # L10, L14, L17
        for stem, text in self.texts.items():
            self.assertRegex(text, r"\A[ -~\n]*\Z", stem)
            self.assertLessEqual(len(text.splitlines()), 400, stem)
            self.assertLessEqual(max(len(line) for line in text.splitlines()), 120, stem)
            self.assertIsNone(WORDS.search(text), stem)

    def test_functions(self):  # L4, L10
        for stem, node in self.nodes():
            if isinstance(node, (ast.FunctionDef, ast.ClassDef)):
                self.assertEqual(node.decorator_list, [], stem)
            if isinstance(node, ast.FunctionDef):
                self.assertLessEqual(node.end_lineno - node.lineno + 1, 40, node.name)
            if isinstance(node, ast.arguments):
                self.assertFalse(node.vararg or node.kwarg or node.kwonlyargs or node.posonlyargs, stem)

    def test_imports(self):  # L2, L16
        for stem, node in self.nodes():
            if isinstance(node, ast.ImportFrom):
                self.assertEqual(node.level, 0, stem)
                package, dot, source = node.module.partition(".")
                self.assertEqual(package, "frameland", stem)
                for name in node.names:
                    self.assertIn(name.name, top_names(self.trees[source]), stem)

    def test_statements_and_values(self):  # L6, L7
        for stem, node in self.nodes():
            if isinstance(node, ast.stmt) and stem != "__main__":
                self.assertIsInstance(node, STATEMENTS, f"{stem}:{node.lineno}")
            self.assertNotIsInstance(node, RULED_OUT, stem)
            if isinstance(node, ast.Assign):
                self.assertEqual(len(node.targets), 1, stem)
            if isinstance(node, (ast.For, ast.While)):
                self.assertEqual(node.orelse, [], stem)
            if isinstance(node, ast.Constant):
                self.assertNotIsInstance(node.value, (float, complex, bytes), stem)

    def test_names(self):  # L8, L12, L15
        for stem, tree in self.trees.items():
            names = top_names(tree)
            self.assertEqual(len(names), len(set(names)), stem)
            for name in bound_names(tree):
                if name not in METHODS:
                    self.assertFalse(name.startswith("_"), f"{stem}: {name}")
            for node in ast.walk(tree):
                if isinstance(node, ast.Name) and hasattr(builtins, node.id) and stem != "__main__":
                    self.assertIn(node.id, OWN_NAMES, stem)
                    self.assertIsInstance(node.ctx, ast.Load, f"{stem}: {node.id}")
                if isinstance(node, ast.arg):
                    self.assertFalse(hasattr(builtins, node.arg), f"{stem}: {node.arg}")

    def test_methods_and_values_bear_different_names(self):  # L18
        methods, values = set(), set()
        for stem, node in self.nodes():
            if isinstance(node, ast.ClassDef):
                methods.update(part.name for part in node.body if isinstance(part, ast.FunctionDef))
            if isinstance(node, ast.Attribute) and isinstance(node.ctx, ast.Store):
                values.add(node.attr)
        self.assertEqual(methods & values, set())

    def test_powers_and_percent_signs(self):  # L27
        for stem, node in self.nodes():
            if isinstance(node, (ast.BinOp, ast.AugAssign)) and isinstance(node.op, ast.Pow):
                exponent = node.right if isinstance(node, ast.BinOp) else node.value
                self.assertIsInstance(exponent, ast.Constant, stem)
                self.assertIn(exponent.value, range(65), stem)
            if isinstance(node, ast.Constant) and isinstance(node.value, str):
                self.assertNotIn("%", node.value, stem)


if __name__ == "__main__":
    unittest.main()
