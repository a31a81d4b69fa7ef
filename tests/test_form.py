"""The form of the package's files: those rules of LANGUAGE.md that a walk over the code can see."""

import ast
import builtins
import pathlib
import re
import unittest

PACKAGE = pathlib.Path(__file__).resolve().parent.parent / "rootrow"

# L6 and L7: the statements and expressions that may stand in a file.
STATEMENTS = (
    ast.FunctionDef, ast.ClassDef, ast.ImportFrom, ast.Assign, ast.AugAssign, ast.If, ast.While, ast.For, ast.Return,
    ast.Break, ast.Continue, ast.Pass, ast.Raise, ast.Try, ast.Expr,
)
EXPRESSIONS = (
    ast.BinOp, ast.UnaryOp, ast.BoolOp, ast.Compare, ast.IfExp, ast.Call, ast.Attribute, ast.Subscript, ast.Slice,
    ast.ListComp, ast.JoinedStr, ast.FormattedValue, ast.Constant, ast.Name, ast.List, ast.Tuple, ast.Dict, ast.Set,
    ast.Lambda,
)
# L8, less what L27 takes out again.
OWN_NAMES = set(
    "len range enumerate zip min max sum abs sorted reversed int str bool list tuple dict set frozenset isinstance "
    "ord repr any all divmod Exception ValueError TypeError KeyError IndexError LookupError ZeroDivisionError "
    "ArithmeticError OverflowError RuntimeError NotImplementedError AttributeError StopIteration".split()
)
# L25.
METHODS = set(
    "append clear copy count endswith extend find get index insert isalnum isalpha isdigit islower isspace isupper "
    "items join keys ljust lower lstrip partition pop remove replace reverse rfind rjust rpartition rsplit rstrip "
    "setdefault split splitlines startswith strip update upper values zfill bit_length".split()
)
# L17: words that stand nowhere, remarks and texts too.
WORDS = re.compile(
    r"\b(type|typing|typing_extensions|enum|Enum|IntEnum|StrEnum|Flag|IntFlag|Generic|Protocol|ABC|ABCMeta|namedtuple"
    r"|NamedTuple|TypedDict|TYPE_CHECKING|abstractmethod)\b|dataclass|overload|contextmanager"
)
PLAIN_NAME = re.compile(r"[A-Za-z][A-Za-z0-9_]*\Z")


def files():
    return sorted(PACKAGE.glob("*.py"))


def bound_names(tree):
    names = []
    for node in ast.walk(tree):
        if isinstance(node, (ast.FunctionDef, ast.ClassDef)):
            names.append(node.name)
        elif isinstance(node, ast.arg):
            names.append(node.arg)
        elif isinstance(node, ast.alias):
            names.append(node.name)
        elif isinstance(node, ast.Name) and isinstance(node.ctx, ast.Store):
            names.append(node.id)
        elif isinstance(node, ast.ExceptHandler) and node.name:
            names.append(node.name)
    return names


def drawn_from(tree):
    return [node.module for node in tree.body if isinstance(node, ast.ImportFrom)]


def trees():
    return [(path.stem, ast.parse(path.read_text(encoding="utf-8"))) for path in files()]


class Form(unittest.TestCase):
    def test_only_plain_files(self):
        for path in PACKAGE.iterdir():
            if path.name != "__pycache__":
                self.assertRegex(path.name, r"\A([a-z][a-z0-9_]*|__init__)\.py\Z")
        self.assertIn(PACKAGE / "__init__.py", files())

    def test_signs_and_sizes(self):
        for path in files():
            text = path.read_bytes().decode("ascii")
            with self.subTest(file=path.name):
                self.assertRegex(text, r"\A[ -~\n]*\Z")
                self.assertIsNone(WORDS.search(text))
                self.assertLessEqual(len(text.splitlines()), 400)
                self.assertLessEqual(max([len(line) for line in text.splitlines()]), 120)

    def test_functions_are_short_and_plain(self):
        for stem, tree in trees():
            for node in ast.walk(tree):
                if isinstance(node, ast.FunctionDef):
                    self.assertLessEqual(node.end_lineno - node.lineno + 1, 40, node.name)
                    self.assertEqual(node.decorator_list, [], node.name)
                    self.assertIsNone(node.args.vararg, node.name)
                    self.assertIsNone(node.args.kwarg, node.name)
                    self.assertEqual(node.args.kwonlyargs + node.args.posonlyargs, [], node.name)

    def test_statements_and_expressions(self):
        for stem, tree in trees():
            for node in ast.walk(tree):
                if isinstance(node, ast.stmt):
                    self.assertIsInstance(node, STATEMENTS, stem)
                if isinstance(node, ast.expr):
                    self.assertIsInstance(node, EXPRESSIONS, stem)
                if isinstance(node, ast.Constant):
                    self.assertIn(type(node.value), (int, str, bool, type(None)), stem)
                self.assertNotIsInstance(node, (ast.Div, ast.MatMult), stem)
                if isinstance(node, ast.Assign):
                    self.assertEqual(len(node.targets), 1, stem)
                if isinstance(node, (ast.For, ast.While)):
                    self.assertEqual(node.orelse, [], stem)

    def test_imports(self):
        modules = ["rootrow." + path.stem for path in files()]
        for stem, tree in trees():
            for node in ast.walk(tree):
                if isinstance(node, ast.ImportFrom):
                    self.assertIn(node, tree.body, stem)
                    self.assertEqual(node.level, 0, stem)
                    self.assertIn(node.module, modules, stem)
                    self.assertNotIn("*", [name.name for name in node.names], stem)

    def test_no_two_files_draw_from_one_another(self):
        left = {"rootrow." + stem: drawn_from(tree) for stem, tree in trees()}
        # Each file stands under its folder's __init__, so that one must draw from nothing.
        self.assertEqual(left["rootrow.__init__"], [])
        while left:
            free = [name for name in left if not set(left[name]) & set(left)]
            self.assertNotEqual(free, [], "a ring of imports")
            left = {name: left[name] for name in left if name not in free}

    def test_names(self):
        for stem, tree in trees():
            bound = bound_names(tree)
            for name in bound:
                if name not in ("__init__", "__eq__", "__repr__", "__str__", "__len__"):
                    self.assertRegex(name, PLAIN_NAME, stem)
                self.assertNotIn(name, dir(builtins), stem)
            for node in ast.walk(tree):
                if isinstance(node, ast.Name) and node.id not in bound:
                    self.assertIn(node.id, OWN_NAMES, stem)

    def test_methods(self):
        for stem, tree in trees():
            for node in ast.walk(tree):
                if isinstance(node, ast.Attribute):
                    self.assertIn(node.attr, METHODS, stem)

    def test_is_stands_beside_none_and_truths_alone(self):
        for stem, tree in trees():
            for node in ast.walk(tree):
                if isinstance(node, ast.Compare):
                    sides = [node.left] + node.comparators
                    for place, operator in enumerate(node.ops):
                        if isinstance(operator, (ast.Is, ast.IsNot)):
                            self.assertIn(ast.dump(sides[place + 1]), [
                                ast.dump(ast.Constant(value)) for value in (None, True, False)
                            ], stem)


if __name__ == "__main__":
    unittest.main()
