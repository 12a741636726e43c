"""The plainest of the rules of LANGUAGE.md, over the package's own files; the rule stands in each message."""

import ast
import builtins
import pathlib
import re
import unittest

PACKAGE = pathlib.Path(__file__).resolve().parent.parent / "loveboon"
MOST_LINES_OF_A_FILE = 400
MOST_LINES_OF_A_DEF = 40
MOST_SIGNS_OF_A_LINE = 120
PYTHONS_OWN = set(
    "len range enumerate zip min max sum abs sorted reversed int str bool bytes list tuple dict set frozenset"
    " isinstance ord repr any all divmod Exception ValueError TypeError KeyError IndexError LookupError"
    " ZeroDivisionError ArithmeticError OverflowError RuntimeError NotImplementedError AttributeError"
    " StopIteration".split()
)
WORDS_OUT = re.compile(
    r"\b(type|typing|typing_extensions|enum|Enum|IntEnum|StrEnum|Flag|IntFlag|Generic|Protocol|ABC|ABCMeta|namedtuple"
    r"|NamedTuple|TypedDict|TYPE_CHECKING|abstractmethod)\b|dataclass|overload|contextmanager"
)
FORMS_OUT = (
    ast.With, ast.Match, ast.Global, ast.Nonlocal, ast.Yield, ast.YieldFrom, ast.Await, ast.AsyncFunctionDef,
    ast.AsyncFor, ast.AsyncWith, ast.GeneratorExp, ast.NamedExpr, ast.Div, ast.Import, ast.MatMult,
)
METHODS_IN = {"__init__", "__eq__", "__repr__", "__str__", "__len__"}


def files():
    return sorted(PACKAGE.rglob("*.py"))


def nodes():
    for file in files():
        for node in ast.walk(ast.parse(file.read_text("utf-8"))):
            yield f"{file.name}:{getattr(node, 'lineno', 0)}", node


class LanguageTest(unittest.TestCase):
    def test_files(self):
        self.assertIn(PACKAGE / "__init__.py", files())
        for thing in PACKAGE.rglob("*"):
            self.assertTrue(
                thing.is_dir() or thing.suffix == ".py" or "__pycache__" in thing.parts, f"L1 {thing.name}"
            )

    def test_signs_lines_and_words(self):
        for file in files():
            text = file.read_text("utf-8")
            self.assertTrue(all(sign == "\n" or " " <= sign <= "~" for sign in text), f"L14 {file.name}")
            lines = text.split("\n")
            self.assertLessEqual(len(lines), MOST_LINES_OF_A_FILE, f"L10 {file.name}")
            self.assertLessEqual(max(map(len, lines)), MOST_SIGNS_OF_A_LINE, f"L10 {file.name}")
            self.assertIsNone(WORDS_OUT.search(text), f"L17 {file.name}")

    def test_forms(self):
        for place, node in nodes():
            self.assertNotIsInstance(node, FORMS_OUT, f"L2, L6 or L7 {place}")
            if isinstance(node, ast.Constant):
                self.assertNotIsInstance(node.value, (float, complex), f"L7 {place}")
            if isinstance(node, (ast.For, ast.While)):
                self.assertEqual(node.orelse, [], f"L6 {place}")
            if isinstance(node, ast.Compare) and any(isinstance(sign, (ast.Is, ast.IsNot)) for sign in node.ops):
                for beside in node.comparators:
                    self.assertTrue(isinstance(beside, ast.Constant) and beside.value in (None, True, False),
                                    f"L20 {place}")

    def test_imports(self):
        for place, node in nodes():
            if isinstance(node, ast.ImportFrom) and node.module != "__future__":
                self.assertEqual(node.level, 0, f"L2 {place}")
                self.assertTrue(node.module.startswith("loveboon."), f"L2 {place}")
                self.assertNotIn("*", [name.name for name in node.names], f"L2 {place}")

    def test_defs_and_classes(self):
        for place, node in nodes():
            if isinstance(node, (ast.FunctionDef, ast.ClassDef)):
                self.assertEqual(node.decorator_list, [], f"L4 or L5 {place}")
                self.assertTrue(node.name in METHODS_IN or not node.name.startswith("_"), f"L12 {place}")
            if isinstance(node, ast.FunctionDef):
                self.assertLessEqual(node.end_lineno - node.lineno + 1, MOST_LINES_OF_A_DEF, f"L10 {place}")
                handed = node.args
                self.assertFalse(handed.vararg or handed.kwarg or handed.posonlyargs, f"L4 {place}")
                for parameter in handed.args + handed.kwonlyargs:
                    self.assertFalse(hasattr(builtins, parameter.arg), f"L15 {place}")
            if isinstance(node, ast.ClassDef):
                self.assertLessEqual(len(node.bases), 1, f"L5 {place}")

    def test_names(self):
        for place, node in nodes():
            if isinstance(node, ast.Name):
                self.assertFalse(node.id.startswith("_"), f"L12 {place}")
                if hasattr(builtins, node.id):
                    self.assertIn(node.id, PYTHONS_OWN, f"L8 {place}")
                    self.assertIsInstance(node.ctx, ast.Load, f"L15 {place}")


if __name__ == "__main__":
    unittest.main()
