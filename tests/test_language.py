"""The plainest of the rules of LANGUAGE.md, over the package's own files; the rule stands in each message."""

import ast
import builtins
import pathlib
import re
import unittest

PACKAGE = pathlib.Path(__file__).resolve().parent.parent / "loveboon"
MOST_LINES_OF_A_FILE = 400
MOST_LINES_OF_A_DEF = 40
MOST_SIGNS_OF_A_LINE = 120
PYTHONS_OWN = set(
    "len range enumerate zip min max sum abs sorted reversed int str bool bytes list tuple dict set frozenset"
    " isinstance ord repr any all divmod Exception ValueError TypeError KeyError IndexError LookupError"
    " ZeroDivisionError ArithmeticError OverflowError RuntimeError NotImplementedError AttributeError"
    " StopIteration".split()
)
WORDS_OUT = re.compile(
    r"\b(type|typing|typing_extensions|enum|Enum|IntEnum|StrEnum|Flag|IntFlag|Generic|Protocol|ABC|ABCMeta|namedtuple"
    r"|NamedTuple|TypedDict|TYPE_CHECKING|abstractmethod)\b|dataclass|overload|contextmanager"
)
FORMS_OUT = (
    ast.With, ast.Match, ast.Global, ast.Nonlocal, ast.Yield, ast.YieldFrom, ast.Await, ast.AsyncFunctionDef,
    ast.AsyncFor, ast.AsyncWith, ast.GeneratorExp, ast.NamedExpr, ast.Div, ast.Import, ast.MatMult,
)
METHODS_IN = {"__init__", "__eq__", "__repr__", "__str__", "__len__"}
METHODS_OF_PYTHONS_OWN = set(
    "append clear copy count endswith extend find get index insert isalnum isalpha isdigit islower isspace isupper"
    " items join keys ljust lower lstrip partition pop remove replace reverse rfind rjust rpartition rsplit rstrip"
    " setdefault split splitlines startswith strip update upper values zfill bit_length".split()
)
WALKED_AT_ONCE = {"zip", "enumerate", "reversed", "range"}
WALKERS = {"list", "tuple", "dict", "sorted", "sum", "any", "all", "enumerate", "zip", "bytes", "min", "max"}


def files():
    return sorted(PACKAGE.rglob("*.py"))


def nodes():
    for file in files():
        for node in ast.walk(ast.parse(file.read_text("utf-8"))):
            yield f"{file.name}:{getattr(node, 'lineno', 0)}", node


def trees():
    for file in files():
        yield file.name, ast.parse(file.read_text("utf-8"))


def is_docstring(row):
    return isinstance(row, ast.Expr) and isinstance(row.value, ast.Constant) and isinstance(row.value.value, str)


def own_methods():
    return {row.name for place, node in nodes() if isinstance(node, ast.ClassDef)
            for row in node.body if isinstance(row, ast.FunctionDef) and row.name not in METHODS_IN}


def own_values():
    return {node.attr for place, node in nodes() if isinstance(node, ast.Attribute) and isinstance(node.ctx, ast.Store)}


def called(node):
    """The plain name that a call calls, or an empty text."""
    return node.func.id if isinstance(node, ast.Call) and isinstance(node.func, ast.Name) else ""


def drawn_from(tree):
    """The package's files that a file draws names from, with the names."""
    return [
        (row.module.partition(".")[2], [name.name for name in row.names])
        for row in tree.body if isinstance(row, ast.ImportFrom) and row.module != "__future__"
    ]


class LanguageTest(unittest.TestCase):
    def test_files(self):
        self.assertIn(PACKAGE / "__init__.py", files())
        for thing in PACKAGE.rglob("*"):
            self.assertTrue(
                thing.is_dir() or thing.suffix == ".py" or "__pycache__" in thing.parts, f"L1 {thing.name}"
            )

    def test_signs_lines_and_words(self):
        for file in files():
            text = file.read_text("utf-8")
            self.assertTrue(all(sign == "\n" or " " <= sign <= "~" for sign in text), f"L14 {file.name}")
            lines = text.split("\n")
            self.assertLessEqual(len(lines), MOST_LINES_OF_A_FILE, f"L10 {file.name}")
            self.assertLessEqual(max(map(len, lines)), MOST_SIGNS_OF_A_LINE, f"L10 {file.name}")
            self.assertIsNone(WORDS_OUT.search(text), f"L17 {file.name}")

    def test_forms(self):
        for place, node in nodes():
            self.assertNotIsInstance(node, FORMS_OUT, f"L2, L6 or L7 {place}")
            if isinstance(node, ast.Constant):
                self.assertNotIsInstance(node.value, (float, complex), f"L7 {place}")
            if isinstance(node, (ast.For, ast.While)):
                self.assertEqual(node.orelse, [], f"L6 {place}")
            if isinstance(node, ast.Compare) and any(isinstance(sign, (ast.Is, ast.IsNot)) for sign in node.ops):
                for beside in node.comparators:
                    self.assertTrue(isinstance(beside, ast.Constant) and beside.value in (None, True, False),
                                    f"L20 {place}")

    def test_imports(self):
        for place, node in nodes():
            if isinstance(node, ast.ImportFrom) and node.module != "__future__":
                self.assertEqual(node.level, 0, f"L2 {place}")
                self.assertTrue(node.module.startswith("loveboon."), f"L2 {place}")
                self.assertNotIn("*", [name.name for name in node.names], f"L2 {place}")

    def test_defs_and_classes(self):
        for place, node in nodes():
            if isinstance(node, (ast.FunctionDef, ast.ClassDef)):
                self.assertEqual(node.decorator_list, [], f"L4 or L5 {place}")
                self.assertTrue(node.name in METHODS_IN or not node.name.startswith("_"), f"L12 {place}")
            if isinstance(node, ast.FunctionDef):
                self.assertLessEqual(node.end_lineno - node.lineno + 1, MOST_LINES_OF_A_DEF, f"L10 {place}")
                handed = node.args
                self.assertFalse(handed.vararg or handed.kwarg or handed.posonlyargs, f"L4 {place}")
                for parameter in handed.args + handed.kwonlyargs:
                    self.assertFalse(hasattr(builtins, parameter.arg), f"L15 {place}")
            if isinstance(node, ast.ClassDef):
                self.assertLessEqual(len(node.bases), 1, f"L5 {place}")

    def test_names(self):
        for place, node in nodes():
            if isinstance(node, ast.Name):
                self.assertFalse(node.id.startswith("_"), f"L12 {place}")
                if hasattr(builtins, node.id):
                    self.assertIn(node.id, PYTHONS_OWN, f"L8 {place}")
                    self.assertIsInstance(node.ctx, ast.Load, f"L15 {place}")

    def test_no_local_is_called_like_an_import_or_a_class(self):
        for file, tree in trees():
            taken = {name for module, names in drawn_from(tree) for name in names}
            taken |= {row.name for row in tree.body if isinstance(row, ast.ClassDef)}
            for node in ast.walk(tree):
                if isinstance(node, ast.Name) and isinstance(node.ctx, ast.Store):
                    self.assertNotIn(node.id, taken, f"L15 {file}:{node.lineno}")
                if isinstance(node, ast.arg):
                    self.assertNotIn(node.arg, taken, f"L15 {file}:{node.lineno}")

    def test_names_are_drawn_from_the_files_that_define_them_and_never_round(self):
        draws = {file[:-len(".py")]: drawn_from(tree) for file, tree in trees()}
        tops = {file[:-len(".py")]: {
            name for row in tree.body for name in (
                [row.name] if isinstance(row, (ast.FunctionDef, ast.ClassDef))
                else [target.id for target in row.targets] if isinstance(row, ast.Assign) else []
            )
        } for file, tree in trees()}
        for file, pairs in draws.items():
            for module, names in pairs:
                self.assertLessEqual(set(names), tops[module], f"L16 {file}")
        left = dict(draws)
        while left:
            ready = [file for file in left if not any(module in left for module, names in left[file])]
            self.assertTrue(ready, f"L16 {sorted(left)}")
            for file in ready:
                del left[file]

    def test_tops_and_class_bodies(self):
        for file, tree in trees():
            for row in tree.body:
                place = f"L3 {file}:{row.lineno}"
                self.assertTrue(
                    isinstance(row, (ast.ImportFrom, ast.FunctionDef, ast.ClassDef, ast.Assign)) or is_docstring(row), place
                )
                if isinstance(row, ast.Assign):
                    self.assertTrue(len(row.targets) == 1 and isinstance(row.targets[0], ast.Name), place)
                    for node in ast.walk(row.value):
                        self.assertNotIsInstance(node, (ast.Call, ast.Lambda, ast.ListComp, ast.DictComp), place)
                        if isinstance(node, (ast.List, ast.Dict)):
                            self.assertIs(node, row.value, f"L15 {file}:{row.lineno}")
        for place, node in nodes():
            if isinstance(node, ast.ClassDef):
                for row in node.body:
                    self.assertTrue(isinstance(row, ast.FunctionDef) or is_docstring(row), f"L5 {place}")

    def test_methods_and_values(self):
        methods, values = own_methods(), own_values()
        self.assertEqual(methods & values, set(), "L18")
        pythons_own = {name for kind in (str, int, list, dict, set, bytes, tuple) for name in dir(kind)}
        self.assertEqual((methods | values) & pythons_own, set(), "L26")
        for file, tree in trees():
            asked = {node.func for node in ast.walk(tree) if isinstance(node, ast.Call)}
            for node in ast.walk(tree):
                if not isinstance(node, ast.Attribute) or node.attr == "__init__":
                    continue
                if node in asked:
                    self.assertIn(node.attr, METHODS_OF_PYTHONS_OWN | methods, f"L25 {file}:{node.lineno}")
                else:
                    self.assertIn(node.attr, values, f"L18 {file}:{node.lineno}")

    def test_handlers(self):
        own = {node.name for place, node in nodes() if isinstance(node, ast.ClassDef)}
        for place, node in nodes():
            if isinstance(node, ast.ExceptHandler):
                self.assertIsInstance(node.type, ast.Name, f"L19 {place}")
                self.assertIn(node.type.id, own, f"L19 {place}")

    def test_walked_at_once_and_sets(self):
        for file, tree in trees():
            walked = set()
            held = set()
            for node in ast.walk(tree):
                if isinstance(node, (ast.For, ast.comprehension)):
                    walked.add(node.iter)
                if called(node) in WALKERS:
                    walked.update(node.args[:1])
                if called(node) in ("zip", "min", "max"):
                    walked.update(node.args)
                if called(node) in ("sorted", "len"):
                    held.update(node.args)
            for node in ast.walk(tree):
                if called(node) in WALKED_AT_ONCE:
                    self.assertIn(node, walked, f"L23 {file}:{node.lineno}")
                if isinstance(node, (ast.Set, ast.SetComp)) or called(node) in ("set", "frozenset"):
                    self.assertIn(node, held, f"L24 {file}:{node.lineno}")

    def test_texts_and_errors(self):
        for place, node in nodes():
            if isinstance(node, ast.Constant) and isinstance(node.value, str):
                self.assertNotIn("%", node.value, f"L27 {place}")
            if isinstance(node, ast.Raise) and node.exc is not None:
                self.assertNotEqual(called(node.exc), "", f"L19 {place}")


if __name__ == "__main__":
    unittest.main()
