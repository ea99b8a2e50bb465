import unittest
from pathlib import Path

from language import faults

FOLDER = Path(__file__).resolve().parent.parent / "telltight"

FINE = '''"""A file that keeps to all rules."""

from telltight.other import helper

NUMBERS = (1, 2, 3)
WORDS = {"one": 1, "two": 2}


class Refusal(ValueError):
    pass


class Keeper:
    def __init__(self, count):
        self.count = count
        self.kept = []

    def put(self, thing):
        self.kept.append(thing)


def doubled(xs, most=10):
    found = []
    for place, x in enumerate(xs):
        if x > most or x in set(NUMBERS):
            raise Refusal(f"too great: {x} at {place!r}")
        found.append(x * 2 ** 3 + (x << 1) + WORDS["one"])
    while len(found) > 3:
        found.pop()
    return sorted(found, key=lambda x: -x)


def read(text):
    try:
        number = int(text)
    except ValueError:
        return None
    return helper(number)
'''
OTHER = '''def helper(number):
    return number
'''

# Each piece stands alone behind the docstring of a file, and breaks the rule named.
WRONG = (
    ("L2", "import math\n"),
    ("L2", "from math import gcd\n"),
    ("L2", "from telltight.other import *\n"),
    ("L2", "from .other import helper\n"),
    ("L2", "def f():\n    from telltight.other import helper\n    return helper(1)\n"),
    ("L3", "for x in (1, 2):\n    pass\n"),
    ("L3", "X = 1 + 2\n"),
    ("L4", "def f(*xs):\n    return 1\n"),
    ("L4", "def f(**xs):\n    return 1\n"),
    ("L4", "def f(*, x):\n    return 1\n"),
    ("L4", "def g():\n    return 1\n\n\ndef f(x=g()):\n    return 1\n"),
    ("L5", "class A:\n    x = 1\n"),
    ("L5", "class A(ValueError, KeyError):\n    pass\n"),
    ("L6", "def f(x):\n    with x:\n        pass\n"),
    ("L6", "def f(x):\n    del x\n"),
    ("L6", "def f(x):\n    assert x\n"),
    ("L6", "def f(x):\n    a = b = x\n    return a + b\n"),
    ("L6", "def f(x):\n    while x:\n        pass\n    else:\n        return 1\n"),
    ("L6", "def f(x):\n    try:\n        return x\n    finally:\n        pass\n"),
    ("L6", "def f(x):\n    try:\n        return x\n    except:\n        return 1\n"),
    ("L6", "def f(x):\n    yield_it = x\n    x + 1\n"),
    ("L7", "def f(x):\n    return x / 2\n"),
    ("L7", "def f(x):\n    return 1.5\n"),
    ("L7", "def f(x):\n    return b'a'\n"),
    ("L7", "def f(x):\n    return sum(y for y in x)\n"),
    ("L7", "def f(x):\n    return {y: 1 for y in x}\n"),
    ("L7", "def f(x):\n    return [y for y in x for z in y]\n"),
    ("L7", "def f(x):\n    return f'{x + 1}'\n"),
    ("L7", "def f(x):\n    return f'{x:3}'\n"),
    ("L7", "def f(x):\n    return [*x]\n"),
    ("L7", "def f(x):\n    if (y := x):\n        return y\n    return 1\n"),
    ("L8", "def f(x):\n    return pow(x, 2)\n"),
    ("L8", "def f(x):\n    print(x)\n"),
    ("L8", "def f(x):\n    return 'a'.format(x)\n"),
    ("L10", "def f(x):\n" + "    x = x\n" * 41),
    ("L10", "X = 1  # " + "x" * 120 + "\n"),
    ("L10", "\n" * 400),
    ("L12", "def f(_x):\n    return 1\n"),
    ("L12", "def _f(x):\n    return 1\n"),
    ("L13", "def f(x):\n    return len({1, 2, 3})\n"),
    ("L13", "def f(x):\n    return [lambda y: y, lambda y: y]\n"),
    ("L14", "# caf\u00e9\n"),
    ("L15", "X = 1\nX = 2\n"),
    ("L15", "X = [[1], [2]]\n"),
    ("L15", "X = [1]\n\n\ndef f(x):\n    X.append(x)\n"),
    ("L15", "X = [1]\n\n\ndef f(x):\n    X[0] = x\n"),
    ("L15", "X = [1]\n\n\ndef f():\n    return X\n"),
    ("L15", "def f(sum):\n    return 1\n"),
    ("L15", "def f(x):\n    hash = x\n    return hash\n"),
    ("L15", "from telltight.other import helper\n\n\ndef f(helper):\n    return 1\n"),
    ("L15", "def f():\n    class A:\n        pass\n    return 1\n"),
    ("L16", "from telltight.other import absent\n"),
    ("L16", "from telltight.piece import f\n\n\ndef f():\n    return 1\n"),
    ("L17", "def f(x):\n    return type(x)\n"),
    ("L17", "# the type of it\n"),
    ("L17", "X = 'an overloaded word'\n"),
    ("L17", "def f(x):\n    return x.open\n"),
    ("L18", "class A:\n    pass\n\n\ndef f():\n    return [A]\n"),
    ("L18", "class A:\n    def put(self):\n        self.put = 1\n"),
    ("L18", "class A:\n    def put(self):\n        return 1\n\n    def put(self):\n        return 2\n"),
    ("L18", "class A(AttributeError):\n    pass\n"),
    ("L18", "def g():\n    return 1\n\n\ndef f():\n    g.x = 1\n"),
    ("L19", "def f(x):\n    try:\n        return x\n    except Exception:\n        return 1\n"),
    ("L19", "def f(x):\n    try:\n        return f(x)\n    except ValueError:\n        return 1\n"),
    ("L19", "def f(x):\n    try:\n        return x[1:2]\n    except IndexError:\n        return 1\n"),
    ("L19", "def f(x):\n    raise x\n"),
    ("L20", "def f(x):\n    return x is f\n"),
    ("L21", "def f(x: int):\n    return 1\n"),
    ("L21", "def f(x) -> int:\n    return 1\n"),
    ("L22", "def f(x):\n    return [len, x]\n"),
    ("L22", "def f(x):\n    return int(x, base=2)\n"),
    ("L23", "def f(x):\n    y = zip(x, x)\n    return 1\n"),
    ("L23", "def f(x):\n    y = x.items()\n    return 1\n"),
    ("L23", "def f(x):\n    for y in x:\n        x.append(y)\n"),
    ("L23", "def f(x):\n    for k, y in enumerate(x):\n        x[k] = y\n"),
    ("L24", "def f(x):\n    y = set(x)\n    return 1\n"),
    ("L24", "def f(x):\n    for y in set(x):\n        return y\n"),
    ("L25", "def f(x):\n    x.sort()\n"),
    ("L25", "def f(x):\n    y = x.append\n    return y\n"),
    ("L26", "class A:\n    def __init__(self):\n        self.keys = 1\n"),
    ("L26", "class A:\n    def sort(self):\n        return 1\n"),
    ("L27", "def f(x):\n    return 2 ** x\n"),
    ("L27", "def f(x):\n    return '50%'\n"),
    ("L27", "def f(x):\n    return '\\x41'\n"),
    ("L27", "def f(x):\n    return chr(x)\n"),
    ("L27", "X = 1" + "0" * 900 + "\n"),
    ("L28", "class A:\n    def __init__(self):\n        return None\n"),
    ("L28", "class A:\n    def __eq__(self, other):\n        return True\n"),
)


class PackageTest(unittest.TestCase):
    def sources(self):
        return {path.name: path.read_text("utf-8") for path in sorted(FOLDER.glob("*.py"))}

    def test_nothing_else_lies_in_it(self):
        others = [path.name for path in FOLDER.iterdir() if path.suffix != ".py" and path.name != "__pycache__"]
        self.assertEqual(others, [])
        self.assertIn("__init__.py", self.sources())

    def test_its_files_keep_to_the_rules(self):
        self.assertEqual(faults(self.sources()), [])

    def test_the_opening_file_binds_nothing(self):
        self.assertEqual(self.sources()["__init__.py"].count("\n"), 1)


class CheckerTest(unittest.TestCase):
    def test_a_fine_file_is_let_by(self):
        self.assertEqual(faults({"piece.py": FINE, "other.py": OTHER}), [])

    def test_each_wrong_piece_is_told(self):
        for rule, piece in WRONG:
            told = [fault[0] for fault in faults({"piece.py": '"""Why."""\n\n' + piece, "other.py": OTHER})]
            self.assertIn(rule, told, piece)

    def test_file_names(self):
        for name in ("tests.py", "test_x.py", "sum.py", "enum.py", "site.py"):
            self.assertIn("L14", [fault[0] for fault in faults({name: OTHER})])
        for name in ("Rows.py", "a-b.py", "notes.txt"):
            self.assertIn("L1", [fault[0] for fault in faults({name: OTHER})])

    def test_rings(self):
        one = "from telltight.two import g\n\n\ndef f():\n    return g()\n"
        two = "from telltight.one import f\n\n\ndef g():\n    return f()\n"
        self.assertIn("L16", [fault[0] for fault in faults({"one.py": one, "two.py": two})])


if __name__ == "__main__":
    unittest.main()
