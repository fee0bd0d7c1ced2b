"""Some rules of LANGUAGE.md, those that are plainly seen in one file at a time; not all of them."""

import ast
import builtins
import re
import unittest
from pathlib import Path

PACKAGE = Path(__file__).resolve().parent.parent / "echofield"
SOURCES = sorted(PACKAGE.glob("*.py"))

OUTSIDE = (
    ast.With, ast.Match, ast.Delete, ast.Global, ast.Nonlocal, ast.Assert, ast.Yield, ast.YieldFrom, ast.Await,
    ast.AsyncFunctionDef, ast.AsyncFor, ast.AsyncWith, ast.NamedExpr, ast.Starred, ast.GeneratorExp, ast.SetComp,
    ast.DictComp, ast.Div, ast.MatMult, ast.Import,
)

OWN_NAMES = set(
    "len range enumerate zip min max sum abs sorted reversed int str bool list tuple dict set frozenset isinstance "
    "ord repr any all divmod Exception ValueError TypeError KeyError IndexError LookupError ZeroDivisionError "
    "ArithmeticError OverflowError RuntimeError NotImplementedError AttributeError StopIteration".split()
)

METHODS = set(
    "append clear copy count endswith extend find get index insert isalnum isalpha isdigit islower isspace isupper "
    "items join keys ljust lower lstrip partition pop remove replace reverse rfind rjust rpartition rsplit rstrip "
    "setdefault split splitlines startswith strip update upper values zfill bit_length".split()
)

WORDS = re.compile(
    r"\b(type|typing|typing_extensions|enum|Enum|IntEnum|StrEnum|Flag|IntFlag|Generic|Protocol|ABC|ABCMeta|namedtuple"
    r"|NamedTuple|TypedDict|TYPE_CHECKING|abstractmethod)\b|dataclass|overload|contextmanager"
)


def nodes():
    for source in SOURCES:
        for node in ast.walk(ast.parse(source.read_text(encoding="utf-8"))):
            yield f"{source.name}:{getattr(node, 'lineno', 1)}", node


def own_methods():
    return {inner.name for _, node in nodes() if isinstance(node, ast.ClassDef) for inner in node.body
            if isinstance(inner, ast.FunctionDef)}


class Language(unittest.TestCase):
    def test_the_folder_holds_sources_alone(self):
        others = [path for path in PACKAGE.iterdir() if path not in SOURCES and path.name != "__pycache__"]
        self.assertEqual(others, [])
        self.assertIn(PACKAGE / "__init__.py", SOURCES)

    def test_signs_lines_and_words(self):
        for source in SOURCES:
            text = source.read_bytes().decode("ascii")
            with self.subTest(file=source.name):
                self.assertEqual(re.findall(r"[^ -~\n]", text), [])
                self.assertLessEqual(text.count("\n"), 400)
                self.assertLessEqual(max(len(line) for line in text.split("\n")), 120)
                self.assertIsNone(WORDS.search(text))

    def test_functions_are_short_and_plain(self):
        for place, node in nodes():
            with self.subTest(place):
                if isinstance(node, ast.FunctionDef):
                    self.assertLessEqual(node.end_lineno - node.lineno + 1, 40)
                    self.assertEqual(node.decorator_list, [])
                    self.assertIsNone(node.args.vararg)
                    self.assertIsNone(node.args.kwarg)
                    self.assertEqual(node.args.kwonlyargs, [])

    def test_imports_are_of_the_package_alone(self):
        for place, node in nodes():
            with self.subTest(place):
                if isinstance(node, ast.ImportFrom):
                    self.assertEqual(node.level, 0)
                    self.assertTrue(node.module.startswith("echofield."))
                    self.assertNotIn("*", [name.name for name in node.names])

    def test_no_form_from_outside(self):
        for place, node in nodes():
            with self.subTest(place):
                self.assertNotIsInstance(node, OUTSIDE)
                if isinstance(node, ast.Assign):
                    self.assertEqual(len(node.targets), 1)
                if isinstance(node, (ast.For, ast.While)):
                    self.assertEqual(node.orelse, [])
                if isinstance(node, ast.Constant):
                    self.assertNotIsInstance(node.value, (float, complex, bytes))

    def test_no_other_name_of_pythons_own(self):
        for place, node in nodes():
            with self.subTest(place):
                if isinstance(node, ast.Name) and hasattr(builtins, node.id):
                    self.assertIn(node.id, OWN_NAMES)
                    self.assertIsInstance(node.ctx, ast.Load)

    def test_names_are_plain(self):
        for place, node in nodes():
            with self.subTest(place):
                for name in (getattr(node, key, None) for key in ("id", "attr", "arg", "name")):
                    if isinstance(name, str) and name != "__init__":
                        self.assertRegex(name, r"^[A-Za-z][A-Za-z0-9_]*$")
                if isinstance(node, ast.arg):
                    self.assertFalse(hasattr(builtins, node.arg))
                    self.assertIsNone(node.annotation)

    def test_methods_are_known_ones(self):
        known = METHODS | own_methods()
        for place, node in nodes():
            with self.subTest(place):
                if isinstance(node, ast.Call) and isinstance(node.func, ast.Attribute):
                    self.assertIn(node.func.attr, known)

    def test_no_method_is_a_value_elsewhere(self):
        stored = {node.attr for _, node in nodes()
                  if isinstance(node, ast.Attribute) and isinstance(node.ctx, ast.Store)}
        self.assertEqual(stored & own_methods(), set())

    def test_powers_texts_and_is(self):
        for place, node in nodes():
            with self.subTest(place):
                if isinstance(node, ast.BinOp) and isinstance(node.op, ast.Pow):
                    self.assertIsInstance(node.right, ast.Constant)
                if isinstance(node, ast.Constant) and isinstance(node.value, str):
                    self.assertNotIn("%", node.value)
                if isinstance(node, ast.Compare) and isinstance(node.ops[0], (ast.Is, ast.IsNot)):
                    self.assertIn(ast.unparse(node.comparators[0]), ("None", "True", "False"))


if __name__ == "__main__":
    unittest.main()
