"""That the package keeps to the rows L14 to L28 of its language, and that the look at them sees what is out."""

import pathlib
import unittest

from tests import language_rows as rows

PACKAGE = pathlib.Path(__file__).resolve().parent.parent / "sumshare"

OUT = (
    (rows.row_14, "test_x.py", ""),
    (rows.row_14, "sum.py", ""),
    (rows.row_14, "site.py", ""),
    (rows.row_14, "a.py", "# \u00e4"),
    (rows.row_15, "a.py", "def f():\n    pass\n\n\ndef f():\n    pass"),
    (rows.row_15, "a.py", "def f():\n    class C:\n        pass"),
    (rows.row_15, "a.py", "X = [[1]]"),
    (rows.row_15, "a.py", "X = [1]\n\n\ndef f():\n    X.append(2)"),
    (rows.row_15, "a.py", "X = {1: 1}\n\n\ndef f():\n    X[2] = 2"),
    (rows.row_15, "a.py", "X = [1]\n\n\ndef f():\n    return X"),
    (rows.row_15, "a.py", "def f(hash):\n    pass"),
    (rows.row_15, "a.py", "def f():\n    next = 1"),
    (rows.row_15, "a.py", "from sumshare.b import g\n\n\ndef f(g):\n    pass"),
    (rows.row_15, "a.py", "class C:\n    pass\n\n\ndef f():\n    C = 1"),
    (rows.row_16, "a.py", "import sys"),
    (rows.row_16, "a.py", "from sumshare import b"),
    (rows.row_16, "a.py", "from sumshare.nowhere import b"),
    (rows.row_16, "a.py", "from sumshare.b import nothing"),
    (rows.row_16, "a.py", "from sumshare.c import f"),
    (rows.row_16, "b.py", "from sumshare.c import h\n\n\ndef f():\n    pass"),
    (rows.row_16, "__init__.py", "b = 1"),
    (rows.row_16, "__init__.py", "from sumshare.b import f"),
    (rows.row_17, "a.py", "x = y.open"),
    (rows.row_17, "a.py", "def register():\n    pass"),
    (rows.row_17, "a.py", "x = e.tb_next"),
    (rows.row_17, "a.py", "x = chr(5)"),
    (rows.row_17, "a.py", "x = __name__"),
    (rows.row_18, "a.py", "class C:\n    pass\n\n\nX = (C, 1)"),
    (rows.row_18, "a.py", "def f():\n    return g(ValueError)"),
    (rows.row_18, "a.py", "class C:\n    pass\n\n\ndef f():\n    C.x = 1"),
    (rows.row_18, "a.py", "class C(AttributeError):\n    pass"),
    (rows.row_18, "a.py", "class C:\n    def m(self):\n        pass\n\n    def m(self):\n        pass"),
    (rows.row_18, "a.py", "class C:\n    def m(self):\n        self.m = 1"),
    (rows.row_19, "a.py", "def f():\n    raise"),
    (rows.row_19, "a.py", "def f(e):\n    raise e"),
    (rows.row_19, "a.py", "def f():\n    raise ValueError"),
    (rows.row_19, "a.py", "try:\n    pass\nexcept Exception:\n    pass"),
    (rows.row_19, "a.py", "try:\n    pass\nexcept:\n    pass"),
    (rows.row_19, "a.py", "try:\n    x = f(1)\nexcept ValueError:\n    pass"),
    (rows.row_19, "a.py", "try:\n    x = int(a % b)\nexcept ValueError:\n    pass"),
    (rows.row_19, "a.py", "try:\n    x = xs[len(ys)]\nexcept IndexError:\n    pass"),
    (rows.row_20, "a.py", "x = a is b"),
    (rows.row_20, "a.py", "x = a is not 0"),
    (rows.row_21, "a.py", "def f(x: int):\n    pass"),
    (rows.row_21, "a.py", "x: int = 1"),
    (rows.row_22, "a.py", "x = len"),
    (rows.row_22, "a.py", "x = sorted(xs, key=repr)"),
    (rows.row_22, "a.py", "x = sorted(xs, reverse=y)"),
    (rows.row_22, "a.py", "x = isinstance(y, float)"),
    (rows.row_22, "a.py", "x = y.split(sep=z)"),
    (rows.row_22, "a.py", "x = int(y, base=2)"),
    (rows.row_23, "a.py", "x = zip(a, b)"),
    (rows.row_23, "a.py", "x = d.items()"),
    (rows.row_23, "a.py", "for x in xs:\n    xs.append(x)"),
    (rows.row_23, "a.py", "for k, v in d.items():\n    d[k] = 1"),
    (rows.row_23, "a.py", "for k, v in enumerate(xs):\n    xs[k] = 1"),
    (rows.row_24, "a.py", "def f(xs):\n    ys = set(xs)"),
    (rows.row_24, "a.py", "def f(xs):\n    for x in set(xs):\n        pass"),
    (rows.row_24, "a.py", "def f(xs):\n    return set(xs) == xs"),
    (rows.row_24, "a.py", "def f(xs):\n    return {1, 2}"),
    (rows.row_25, "a.py", "xs.sort()"),
    (rows.row_25, "a.py", "x = y.title()"),
    (rows.row_25, "a.py", "x = xs.append"),
    (rows.row_26, "a.py", "class C:\n    def sort(self):\n        pass"),
    (rows.row_26, "a.py", "class C:\n    def m(self):\n        self.items = 1"),
    (rows.row_26, "a.py", "class C:\n    def m(self):\n        self.args = 1"),
    (rows.row_27, "a.py", "x = 2 ** n"),
    (rows.row_27, "a.py", "x = 2 ** 65"),
    (rows.row_27, "a.py", "x = '5 %'"),
    (rows.row_27, "a.py", "x = '\\x41'"),
    (rows.row_27, "a.py", "x = f'{y[0]}'"),
    (rows.row_27, "a.py", "x = f'{y:5}'"),
    (rows.row_27, "a.py", "x = f'{y!s}'"),
    (rows.row_28, "a.py", "class C:\n    def __init__(self):\n        return None"),
    (rows.row_28, "a.py", "class C:\n    def __len__(self):\n        return self.x"),
    (rows.row_28, "a.py", "class C:\n    def __repr__(self):\n        return self.x"),
    (rows.row_28, "a.py", "class C:\n    def __eq__(self, other):\n        self.x = 1"),
)

IN = """
from sumshare.b import f

PAIRS = [(1, 2), (3, 4)]


class Off(ValueError):
    def __init__(self, place):
        ValueError.__init__(self, f"off {place!r}")
        self.place = place


def g(xs, d):
    first, second = PAIRS[0]
    for k, v in d.items():
        f(k, v)
    for k, x in enumerate(list(xs)):
        xs[k] = x + 2 ** 3
    ys = sorted(set(xs) - set(d), key=len) if len(set(xs)) > 1 else sorted(xs, key=lambda x: -x, reverse=True)
    if d.get(1) is None or 3 in set(xs) or not isinstance(xs, (list, tuple)):
        raise Off(", ".join([str(y) for y in ys]))
    return [min(zip(xs, ys)), list(PAIRS), "a\\n"]


def h(text):
    try:
        return int(text)
    except ValueError as e:
        raise Off(text) from e
"""


def with_others(name, text):
    files = {"__init__.py": "", "b.py": "def f(x, y):\n    return x", "c.py": "from sumshare.b import f"}
    files[name] = text
    return files


class RowsTest(unittest.TestCase):
    def test_the_package_keeps_to_each_row(self):
        files = {path.name: path.read_text(encoding="utf-8") for path in PACKAGE.glob("*.py")}
        self.assertIn("tallies.py", files)
        for row in rows.ROWS:
            with self.subTest(row.__name__):
                self.assertEqual(row(files), [])

    def test_the_look_sees_what_is_out(self):
        for row, name, text in OUT:
            with self.subTest(f"{row.__name__} {name}: {text}"):
                self.assertNotEqual(row(with_others(name, text)), [])

    def test_the_look_lets_by_what_is_in(self):
        text = IN.replace("sorted(set(xs) - set(d), key=len)", "sorted(set(xs) - set(d))")
        for row in rows.ROWS:
            with self.subTest(row.__name__):
                self.assertEqual(row(with_others("a.py", text)), [])

    def test_a_set_is_not_sorted_by_a_keyword(self):
        self.assertNotEqual(rows.row_24(with_others("a.py", IN)), [])
