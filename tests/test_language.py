"""The package keeps to the rules of its language, and the script that says so sees what it should."""

import pathlib
import unittest

from rules import faults

FOLDER = pathlib.Path(__file__).resolve().parent.parent / "zonelines"

WRONG = [
    ("L2", "import math\n"),
    ("L2", "from math import gcd\n"),
    ("L2", "from .house import answers\n"),
    ("L2", "def f():\n    from zonelines.other import g\n    return g()\n"),
    ("L3", "A = f()\n"),
    ("L3", "if 1:\n    A = 1\n"),
    ("L3", "A = [[1], [2]]\n"),
    ("L4", "def f(*a):\n    return a\n"),
    ("L4", "def f(a, *, b):\n    return a\n"),
    ("L4", "@f\ndef g():\n    return 1\n"),
    ("L5", "class A:\n    b = 1\n"),
    ("L6", "def f(a):\n    del a\n"),
    ("L6", "def f(a):\n    assert a\n"),
    ("L6", "def f(a):\n    b = c = a\n    return b + c\n"),
    ("L6", "def f(a):\n    for b in a:\n        pass\n    else:\n        pass\n"),
    ("L6", "def f(a):\n    yield a\n"),
    ("L6", "def f(a):\n    with a:\n        pass\n"),
    ("L7", "def f(a):\n    return a / 2\n"),
    ("L7", "def f(a):\n    return a * 1.5\n"),
    ("L7", "def f(a):\n    return sum(b for b in a)\n"),
    ("L7", "def f(a):\n    return {b: b for b in a}\n"),
    ("L7", "def f(a):\n    return [*a]\n"),
    ("L7", "def f(a):\n    return [c for b in a for c in b]\n"),
    ("L7", "def f(a):\n    return f\"{a:3}\"\n"),
    ("L7", "def f(a):\n    return b\"x\"\n"),
    ("L8", "def f(a):\n    print(a)\n"),
    ("L8", "def f(a):\n    return round(a)\n"),
    ("L10", "def f(a):\n" + "    a = a\n" * 40),
    ("L10", "A = 1\n" * 401),
    ("L10", "A = " + "1" * 120 + "\n"),
    ("L12", "def f(_a):\n    return 1\n"),
    ("L12", "def f(a):\n    return [1 for _ in a]\n"),
    ("L14", "# caf\u00e9\n"),
    ("L15", "A = 1\nA = 2\n"),
    ("L15", "def f(min):\n    return 1\n"),
    ("L15", "def f():\n    id = 1\n"),
    ("L15", "A = [1]\n\n\ndef f():\n    A.append(2)\n"),
    ("L15", "A = [1]\n\n\ndef f():\n    A[0] = 2\n"),
    ("L15", "A = [1]\n\n\ndef f():\n    return A\n"),
    ("L15", "class A:\n    pass\n\n\ndef f(A):\n    return 1\n"),
    ("L17", "def f(a):\n    return a.open()\n"),
    ("L17", "# a type of thing\n"),
    ("L17", "# an overloaded line\n"),
    ("L18", "class A:\n    def f(self):\n        return 1\n\n\ndef g():\n    return [A]\n"),
    ("L18", "class A:\n    def f(self):\n        return 1\n\n    def g(self):\n        self.f = 2\n"),
    ("L19", "def f(a):\n    try:\n        return g(a)\n    except Exception:\n        return 0\n"),
    ("L19", "def f(a):\n    try:\n        return g(a)\n    except:\n        return 0\n"),
    ("L20", "def f(a, b):\n    return a is b\n"),
    ("L21", "def f(a: int):\n    return a\n"),
    ("L22", "def f(a):\n    return f(len)\n"),
    ("L22", "def f(a):\n    return int(a, base=2)\n"),
    ("L23", "def f(a):\n    return range(a)\n"),
    ("L23", "def f(a):\n    b = a.items()\n    return b\n"),
    ("L23", "def f(a):\n    for b in a:\n        a.append(b)\n"),
    ("L24", "def f(a):\n    b = set(a)\n    return b\n"),
    ("L25", "def f(a):\n    a.sort()\n"),
    ("L25", "def f(a):\n    return a.append\n"),
    ("L26", "class A:\n    def __init__(self, a):\n        self.numerator = a\n"),
    ("L27", "def f(a):\n    return 2 ** a\n"),
    ("L27", "A = \"5%\"\n"),
    ("L27", "A = \"\\x41\"\n"),
    ("L28", "class A:\n    def __init__(self):\n        return None\n"),
]


def package_sources():
    paths = [path for path in FOLDER.rglob("*") if path.is_file() and "__pycache__" not in path.parts]
    return {path.relative_to(FOLDER).as_posix(): path.read_text(encoding="utf-8") for path in paths}


class Language(unittest.TestCase):
    def test_the_package_keeps_to_the_rules(self):
        sources = package_sources()
        self.assertIn("house.py", sources)
        self.assertIn("__init__.py", sources)
        self.assertEqual(faults(sources), [])

    def test_wrong_code_is_seen(self):
        for rule, text in WRONG:
            with self.subTest(rule=rule, text=text):
                self.assertIn(rule, [fault[0] for fault in faults({"wrong.py": text})])

    def test_wrong_files_are_seen(self):
        self.assertEqual([fault[0] for fault in faults({"notes.txt": "x"})][0], "L1")
        self.assertEqual(faults({"range.py": ""}), [("L14", "range.py", 0)])
        self.assertEqual(faults({"test_it.py": ""}), [("L14", "test_it.py", 0)])

    def test_circles_are_seen(self):
        sources = {"a.py": "from zonelines.b import g\n\n\ndef f():\n    return g()\n",
                   "b.py": "from zonelines.a import f\n\n\ndef g():\n    return f()\n"}
        self.assertEqual([fault[0] for fault in faults(sources)], ["L16", "L16"])
        self.assertEqual([fault[0] for fault in faults({"a.py": "from zonelines.b import h\n", "b.py": ""})], ["L16"])


if __name__ == "__main__":
    unittest.main()
