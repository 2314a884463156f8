import ast
import pathlib
import re
import unittest

from tests.language import faults

PACKAGE = pathlib.Path(__file__).resolve().parent.parent / "spanways"

REFUSED = [
    "import os\n", "from os import path\n", "from .ways import ALL\n", "from spanways.ways import *\n",
    "print(1)\n", "A = 1\nA = 2\n", "A = [[1]]\n", "def f(*a):\n    return a\n", "def f(a: int):\n    return a\n",
    "def f(len):\n    return len\n", "def f():\n    global a\n", "def f():\n    a = b = 1\n",
    "def f():\n    a, b = 1, 2\n", "def f():\n    yield 1\n", "def f():\n    return 1 / 2\n",
    "def f():\n    return 1.5\n", "def f():\n    return {a for a in [1]}\n",
    "def f():\n    return any(a for a in [1])\n",
    "def f(a):\n    return [b for c in a for b in c]\n", "def f():\n    return open('a')\n",
    "def f(a):\n    return map(str, a)\n", "def f(a):\n    return a is 1 + 1\n", "def f(n):\n    return 2 ** n\n",
    "def _f():\n    return 1\n", "class A:\n    b = 1\n", "class A:\n    def __add__(self, other):\n        return 1\n",
    "# a type\n", "# a\ttab\n", "A = '\u00e4'\n", "A = '" + "a" * 120 + "'\n", "A = 1\n" * 401,
    "def f():\n" + "    pass\n" * 40, "def f():\n    return 'a'.title()\n", "def f(a):\n    with a:\n        pass\n",
    "def f(a):\n    return f'{a + 1}'\n", "def f():\n    return 'a % b'\n",
    "from spanways.ways import ALL\n\n\ndef f(ALL):\n    return ALL\n", "def f(a):\n    return zip(a, a)\n",
    "class A:\n    pass\n\n\ndef f():\n    A = 1\n    return A\n", "def f(a):\n    b = a.items()\n    return b\n",
    "def f(a):\n    return sorted(a, range(3))\n", "def f(a):\n    for b in set(a):\n        return b\n",
    "def f(a):\n    b = set(a)\n    return b\n", "def f(a):\n    return sorted(set(a), reverse=True)\n",
    "def f(a):\n    return a.title()\n", "def f(a):\n    return a.split(sep=' ')\n",
    "def f(a):\n    return int(a, base=2)\n", "def f():\n    raise ValueError\n", "def f(os):\n    return os\n",
    "class A:\n    def __init__(self):\n        self.items = 1\n",
    "class A:\n    def __init__(self):\n        return None\n",
    "class A:\n    def b(self):\n        self.b = 1\n", "def f(a):\n    for b in a:\n        a.append(b)\n",
    "def f(a):\n    for b, c in enumerate(a):\n        a[b] = c\n", "def f(a):\n    raise a\n",
    "def f(a):\n    for b in a.keys():\n        a.pop(b)\n",
    "def f(a):\n    try:\n        return a[0]\n    except TypeError:\n        return 1\n",
]

KEPT = [
    "def f(a):\n    return [b for b in zip(a, a)]\n", "def f(a):\n    return list(enumerate(a))\n",
    "def f(a):\n    return len(set(a) - set([1])) == 2 and 3 in set(a)\n", "def f(a):\n    return sorted(set(a))\n",
    "def f(a):\n    for b, c in a.items():\n        return b\n", "def f():\n    return max(range(3))\n",
    "def f(a):\n    for b in list(a):\n        a.pop(b)\n", "def f(a):\n    for b in a:\n        b.append(1)\n",
    "class A:\n    def __init__(self):\n        self.count = 1\n\n    def add(self, b):\n        self.add(b)\n",
    "def f(a):\n    raise ValueError(a)\n", "def f(a):\n    return list(enumerate(a, start=1))\n",
]


def files():
    return sorted(path for path in PACKAGE.iterdir() if path.name != "__pycache__")


def drawn_from(path):
    tree = ast.parse(path.read_text(encoding="ascii"))
    return [node for node in tree.body if isinstance(node, ast.ImportFrom)]


def defined_in(path):
    found = set()
    for statement in ast.parse(path.read_text(encoding="ascii")).body:
        if isinstance(statement, (ast.FunctionDef, ast.ClassDef)):
            found.add(statement.name)
        if isinstance(statement, ast.Assign):
            found.add(statement.targets[0].id)
    return found


class Language(unittest.TestCase):
    def test_only_plainly_named_python_files_lie_in_the_package(self):
        self.assertIn("__init__.py", [path.name for path in files()])
        for path in files():
            self.assertTrue(path.is_file(), path)
            self.assertRegex(path.name, re.compile(r"(__init__|[a-z][a-z0-9_]*)\.py\Z"))

    def test_every_file_keeps_to_the_rules(self):
        for path in files():
            self.assertEqual(faults(path.read_text(encoding="utf-8")), [], path.name)

    def test_names_are_drawn_from_the_very_file_that_defines_them(self):
        for path in files():
            for row in drawn_from(path):
                source = PACKAGE / (row.module.partition(".")[2] + ".py")
                for alias in row.names:
                    self.assertIn(alias.name, defined_in(source), path.name)

    def test_no_two_files_draw_from_one_another(self):
        drawn = {path.stem: {row.module.partition(".")[2] for row in drawn_from(path)} for path in files()}
        self.assertEqual(drawn["__init__"], set())
        left = dict(drawn)
        while left:
            free = [name for name in left if not left[name] & set(left)]
            self.assertTrue(free, left)
            for name in free:
                left.pop(name)

    def test_no_name_is_a_method_in_one_class_and_a_value_in_another(self):
        methods, values = set(), set()
        for path in files():
            for node in ast.walk(ast.parse(path.read_text(encoding="ascii"))):
                if isinstance(node, ast.ClassDef):
                    methods |= {part.name for part in node.body if isinstance(part, ast.FunctionDef)}
                if isinstance(node, ast.Attribute) and isinstance(node.ctx, ast.Store):
                    values.add(node.attr)
        self.assertEqual(methods & values, set())

    def test_what_the_rules_allow_is_let_be(self):
        for source in KEPT:
            self.assertEqual(faults(source), [], source)

    def test_what_is_outside_the_rules_is_seen(self):
        for source in REFUSED:
            self.assertNotEqual(faults(source), [], source)


if __name__ == "__main__":
    unittest.main()
