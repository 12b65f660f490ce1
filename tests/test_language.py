"""That the package keeps to its small part of Python, as far as a plain look at its files tells."""

import ast
import pathlib
import re
import unittest

from tests.language_rows import DUNDERS, ERRORS, FUNCTIONS, KINDS, METHODS, PYTHONS_OWN

PACKAGE = pathlib.Path(__file__).resolve().parent.parent / "sumshare"
FILES = sorted(path for path in PACKAGE.rglob("*") if "__pycache__" not in path.parts)

WORDS_OUT = (
    r"\b(type|typing|typing_extensions|enum|Enum|IntEnum|StrEnum|Flag|IntFlag|Generic|Protocol|ABC|ABCMeta"
    r"|namedtuple|NamedTuple|TypedDict|TYPE_CHECKING|abstractmethod)\b|dataclass|overload|contextmanager"
)
BUILTINS = [name for name in FUNCTIONS if name != "print"] + KINDS + ERRORS
OTHERS_METHODS = {
    name for kind in (str, int, list, dict, tuple, set, bytes) for name in dir(kind)
} - set(METHODS) - set(DUNDERS) - {"add", "discard"}

NODES = (
    "Module FunctionDef ClassDef Return Assign AugAssign For While If Raise Try ExceptHandler ImportFrom Expr "
    "Pass Break Continue BoolOp BinOp UnaryOp Lambda IfExp Dict List Tuple Set ListComp comprehension Compare "
    "Call keyword JoinedStr FormattedValue Constant Attribute Subscript Slice Name Load Store alias arguments arg "
    "And Or Add Sub Mult FloorDiv Mod Pow LShift RShift BitOr BitXor BitAnd Invert Not UAdd USub "
    "Eq NotEq Lt LtE Gt GtE Is IsNot In NotIn"
).split()


def texts_of_files():
    return [(path.name, path.read_bytes().decode("ascii")) for path in FILES if path.is_file()]


def places_of(tree, wanted):
    return [getattr(node, "lineno", 0) for node in ast.walk(tree) if wanted(node)]


def is_docstring_or_call(node):
    return isinstance(node.value, ast.Call) or isinstance(getattr(node.value, "value", None), str)


def wrong_node(node):
    return type(node).__name__ not in NODES


def wrong_import(node):
    return isinstance(node, ast.ImportFrom) and not (
        node.level == 0 and node.module.startswith("sumshare.") and all(name.name != "*" for name in node.names)
    )


def wrong_name(node):
    names = []
    if isinstance(node, ast.Name):
        names.append(node.id)
        if isinstance(node.ctx, ast.Store) and node.id in PYTHONS_OWN:
            return True
    elif isinstance(node, ast.arg):
        names.append(node.arg)
        if node.arg in PYTHONS_OWN:
            return True
    elif isinstance(node, (ast.FunctionDef, ast.ClassDef)):
        names.append(node.name)
    elif isinstance(node, ast.Attribute):
        names.append(node.attr)
        return node.attr.startswith("_") and node.attr not in DUNDERS
    return any(
        (name.startswith("_") and name not in DUNDERS) or (name in PYTHONS_OWN and name not in BUILTINS + DUNDERS)
        for name in names
    )


def wrong_form(node):
    if isinstance(node, ast.FunctionDef):
        plain = not node.args.vararg and not node.args.kwarg and not node.args.kwonlyargs
        return not plain or bool(node.decorator_list) or node.end_lineno - node.lineno >= 40
    if isinstance(node, ast.ClassDef):
        return bool(node.decorator_list or node.keywords) or len(node.bases) > 1
    if isinstance(node, ast.Assign):
        return len(node.targets) != 1
    if isinstance(node, (ast.For, ast.While)):
        return bool(node.orelse)
    if isinstance(node, ast.Try):
        return bool(node.finalbody)
    if isinstance(node, ast.ListComp):
        return len(node.generators) != 1 or len(node.generators[0].ifs) > 1
    if isinstance(node, ast.Constant):
        return isinstance(node.value, (float, bytes, complex))
    if isinstance(node, ast.Attribute):
        return node.attr in OTHERS_METHODS
    if isinstance(node, ast.Compare):
        return any(
            isinstance(sign, (ast.Is, ast.IsNot)) and ast.unparse(side) not in ("None", "True", "False")
            for sign, side in zip(node.ops, node.comparators)
        )
    return isinstance(node, ast.Expr) and not is_docstring_or_call(node)


class LanguageTest(unittest.TestCase):
    def test_the_folder_holds_python_files_alone(self):
        self.assertTrue((PACKAGE / "__init__.py").is_file())
        for path in FILES:
            self.assertRegex(path.name, r"^[a-z0-9_]+(\.py)?$")
            self.assertTrue(path.is_dir() or path.suffix == ".py")

    def test_signs_rows_and_words(self):
        for name, text in texts_of_files():
            with self.subTest(name):
                self.assertRegex(text, r"\A[ -~\n]*\Z")
                self.assertLessEqual(len(text.splitlines()), 400)
                self.assertLessEqual(max(map(len, text.splitlines()), default=0), 120)
                self.assertIsNone(re.search(WORDS_OUT, text))

    def test_nodes_of_the_language_alone(self):
        for name, text in texts_of_files():
            with self.subTest(name):
                self.assertEqual(places_of(ast.parse(text), wrong_node), [])

    def test_imports_names_and_forms(self):
        for name, text in texts_of_files():
            for wrong in (wrong_import, wrong_name, wrong_form):
                with self.subTest(name + " by " + wrong.__name__):
                    self.assertEqual(places_of(ast.parse(text), wrong), [])

    def test_the_look_sees_what_is_out(self):
        for text, wrong in (
            ("import os", wrong_node),
            ("x = {a for a in b}", wrong_node),
            ("x = 1 / 2", wrong_node),
            ("from random import choice", wrong_import),
            ("from .things import is_stream", wrong_import),
            ("x = open(1)", wrong_name),
            ("def f(id): pass", wrong_name),
            ("_x = 1", wrong_name),
            ("a = b = 1", wrong_form),
            ("x = 1.5", wrong_form),
            ("x = a is b", wrong_form),
            ("x = a is 0", wrong_form),
            ("for x in xs:\n    pass\nelse:\n    pass", wrong_form),
            ("xs.sort()", wrong_form),
            ("def f(*xs): pass", wrong_form),
            ("x = [a for b in c for a in b]", wrong_form),
        ):
            with self.subTest(text):
                self.assertNotEqual(places_of(ast.parse(text), wrong), [])
