"""Some rules of LANGUAGE.md, those that are plainly seen in one file at a time; not all of them."""

import ast
import builtins
import re
import unittest
from pathlib import Path

PACKAGE = Path(__file__).resolve().parent.parent / "echofield"
SOURCES = sorted(PACKAGE.glob("*.py"))

OUTSIDE = (
    ast.With, ast.Match, ast.Delete, ast.Global, ast.Nonlocal, ast.Assert, ast.Yield, ast.YieldFrom, ast.Await,
    ast.AsyncFunctionDef, ast.AsyncFor, ast.AsyncWith, ast.NamedExpr, ast.Starred, ast.GeneratorExp, ast.SetComp,
    ast.DictComp, ast.Div, ast.MatMult, ast.Import,
)

OWN_NAMES = set(
    "len range enumerate zip min max sum abs sorted reversed int str bool list tuple dict set frozenset isinstance "
    "ord repr any all divmod Exception ValueError TypeError KeyError IndexError LookupError ZeroDivisionError "
    "ArithmeticError OverflowError RuntimeError NotImplementedError AttributeError StopIteration".split()
)

WORDS = re.compile(
    r"\b(type|typing|typing_extensions|enum|Enum|IntEnum|StrEnum|Flag|IntFlag|Generic|Protocol|ABC|ABCMeta|namedtuple"
    r"|NamedTuple|TypedDict|TYPE_CHECKING|abstractmethod)\b|dataclass|overload|contextmanager"
)


def nodes():
    for source in SOURCES:
        for node in ast.walk(ast.parse(source.read_text(encoding="utf-8"))):
            yield f"{source.name}:{getattr(node, 'lineno', 1)}", node


class Language(unittest.TestCase):
    def test_the_folder_holds_sources_alone(self):
        others = [path for path in PACKAGE.iterdir() if path not in SOURCES and path.name != "__pycache__"]
        self.assertEqual(others, [])
        self.assertIn(PACKAGE / "__init__.py", SOURCES)

    def test_signs_lines_and_words(self):
        for source in SOURCES:
            text = source.read_bytes().decode("ascii")
            with self.subTest(file=source.name):
                self.assertEqual(re.findall(r"[^ -~\n]", text), [])
                self.assertLessEqual(text.count("\n"), 400)
                self.assertLessEqual(max(len(line) for line in text.split("\n")), 120)
                self.assertIsNone(WORDS.search(text))

    def test_functions_are_short_and_plain(self):
        for place, node in nodes():
            with self.subTest(place):
                if isinstance(node, ast.FunctionDef):
                    self.assertLessEqual(node.end_lineno - node.lineno + 1, 40)
                    self.assertEqual(node.decorator_list, [])
                    self.assertIsNone(node.args.vararg)
                    self.assertIsNone(node.args.kwarg)
                    self.assertEqual(node.args.kwonlyargs, [])

    def test_imports_are_of_the_package_alone(self):
        for place, node in nodes():
            with self.subTest(place):
                if isinstance(node, ast.ImportFrom):
                    self.assertEqual(node.level, 0)
                    self.assertTrue(node.module.startswith("echofield."))
                    self.assertNotIn("*", [name.name for name in node.names])

    def test_no_form_from_outside(self):
        for place, node in nodes():
            with self.subTest(place):
                self.assertNotIsInstance(node, OUTSIDE)
                if isinstance(node, ast.Assign):
                    self.assertEqual(len(node.targets), 1)
                if isinstance(node, (ast.For, ast.While)):
                    self.assertEqual(node.orelse, [])
                if isinstance(node, ast.Constant):
                    self.assertNotIsInstance(node.value, (float, complex, bytes))

    def test_no_other_name_of_pythons_own(self):
        for place, node in nodes():
            with self.subTest(place):
                if isinstance(node, ast.Name) and hasattr(builtins, node.id):
                    self.assertIn(node.id, OWN_NAMES)
                    self.assertIsInstance(node.ctx, ast.Load)


if __name__ == "__main__":
    unittest.main()
