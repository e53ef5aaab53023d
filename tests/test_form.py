"""The part of Python that the package keeps to, as far as it can be seen file by file."""

import ast
import builtins
import re
import unittest
from pathlib import Path

import toldworths

FOLDER = Path(toldworths.__file__).parent

ALLOWED_BUILTINS = set("""
len range enumerate zip min max sum abs sorted reversed int str bool list tuple dict set frozenset isinstance ord repr
any all divmod Exception ValueError TypeError KeyError IndexError LookupError ZeroDivisionError ArithmeticError
OverflowError RuntimeError NotImplementedError AttributeError StopIteration object
""".split())

ALLOWED_SPECIALS = {"__init__", "__eq__", "__repr__", "__str__", "__len__"}

FORBIDDEN_WORDS = re.compile(
    r"\b(type|typing|typing_extensions|enum|Enum|IntEnum|StrEnum|Flag|IntFlag|Generic|Protocol|ABC|ABCMeta|namedtuple"
    r"|NamedTuple|TypedDict|TYPE_CHECKING|abstractmethod)\b|dataclass|overload|contextmanager"
)

FORBIDDEN_NODES = (
    ast.With, ast.Match, ast.Delete, ast.Global, ast.Nonlocal, ast.Assert, ast.Yield, ast.YieldFrom, ast.AsyncFor,
    ast.AsyncWith, ast.AsyncFunctionDef, ast.Await, ast.SetComp, ast.DictComp, ast.GeneratorExp, ast.NamedExpr,
    ast.Starred, ast.Div, ast.MatMult, ast.TryStar, ast.AnnAssign,
)


def sources():
    return [(path, path.read_bytes()) for path in sorted(FOLDER.rglob("*.py"))]


def nodes():
    for path, source in sources():
        for node in ast.walk(ast.parse(source)):
            yield f"{path.name}:{getattr(node, 'lineno', 0)}", node


class Files(unittest.TestCase):
    def test_the_package_holds_plain_files_alone(self):
        for path in FOLDER.rglob("*"):
            if "__pycache__" not in path.parts:
                self.assertRegex(path.name, r"^(__init__\.py|[a-z][a-z0-9_]*(\.py)?)$")
        self.assertTrue((FOLDER / "__init__.py").is_file())

    def test_signs_and_sizes(self):
        for path, source in sources():
            with self.subTest(path=path.name):
                self.assertTrue(all(sign == 10 or 32 <= sign <= 126 for sign in source))
                rows = source.decode().splitlines()
                self.assertLessEqual(len(rows), 400)
                self.assertLessEqual(max([0] + [len(text) for text in rows]), 120)

    def test_words_that_stand_nowhere(self):
        for path, source in sources():
            self.assertIsNone(FORBIDDEN_WORDS.search(source.decode()), path.name)


class Language(unittest.TestCase):
    def test_statements_and_expressions(self):
        for place, node in nodes():
            with self.subTest(place=place):
                self.assertNotIsInstance(node, FORBIDDEN_NODES)
                if isinstance(node, (ast.For, ast.While)):
                    self.assertEqual(node.orelse, [])
                if isinstance(node, ast.Try):
                    self.assertEqual(node.finalbody, [])
                if isinstance(node, ast.Assign):
                    self.assertEqual(len(node.targets), 1)
                if isinstance(node, ast.Constant):
                    self.assertIsInstance(node.value, (int, str, type(None)))
                if isinstance(node, ast.ListComp):
                    self.assertEqual(len(node.generators), 1)
                    self.assertLessEqual(len(node.generators[0].ifs), 1)

    def test_nothing_is_imported(self):
        for place, node in nodes():
            self.assertNotIsInstance(node, (ast.Import, ast.ImportFrom), place)

    def test_functions(self):
        for place, node in nodes():
            if isinstance(node, ast.FunctionDef):
                with self.subTest(place=place):
                    self.assertLessEqual(node.end_lineno - node.lineno + 1, 40)
                    self.assertEqual(node.decorator_list, [])
                    self.assertIsNone(node.args.vararg)
                    self.assertIsNone(node.args.kwarg)
                    self.assertEqual(node.args.kwonlyargs + node.args.posonlyargs, [])

    def test_names(self):
        for place, node in nodes():
            with self.subTest(place=place):
                if isinstance(node, ast.Name):
                    self.assertNotIn(node.id, set(dir(builtins)) - ALLOWED_BUILTINS)
                    self.assertFalse(node.id.startswith("_"))
                    if not isinstance(node.ctx, ast.Load):
                        self.assertFalse(hasattr(builtins, node.id))
                if isinstance(node, ast.arg):
                    self.assertFalse(hasattr(builtins, node.arg) or node.arg.startswith("_"))
                if isinstance(node, ast.FunctionDef) and node.name not in ALLOWED_SPECIALS:
                    self.assertFalse(hasattr(builtins, node.name) or node.name.startswith("_"))


if __name__ == "__main__":
    unittest.main()
