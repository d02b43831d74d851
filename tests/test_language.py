"""The form of the package's code, and that what reads it sees what lies outside."""

import pathlib
import unittest

from language import faults_of

FOLDER = pathlib.Path(__file__).resolve().parent.parent / "leafjudge"

# For each rule, rows of code that lie outside it.
WRONG = [
    ("L2", "import sys\n"), ("L2", "from os import path\n"), ("L2", "from .errors import NoRow\n"),
    ("L2", "from leafjudge.errors import *\n"), ("L2", "def f():\n    from leafjudge.errors import NoRow\n"),
    ("L3", "for k in range(3):\n    pass\n"), ("L3", "A = len(\"a\")\n"), ("L3", "A = 1 + 1\n"),
    ("L4", "def f(*a):\n    pass\n"), ("L4", "def f(**a):\n    pass\n"), ("L4", "def f(*, a):\n    pass\n"),
    ("L4", "def g():\n    pass\n\n\n@g\ndef f():\n    pass\n"), ("L4", "def f(a=len(\"a\")):\n    pass\n"),
    ("L5", "class A:\n    b = 1\n"), ("L5", "class A:\n    def __hash__(self):\n        return 1\n"),
    ("L6", "def f(a):\n    with a:\n        pass\n"), ("L6", "def f(a):\n    del a[0]\n"),
    ("L6", "def f(a):\n    assert a\n"), ("L6", "def f(a):\n    b = c = a\n"), ("L6", "def f(a):\n    a\n"),
    ("L6", "def f(a):\n    for b in a:\n        pass\n    else:\n        pass\n"),
    ("L6", "def f(a):\n    try:\n        a()\n    finally:\n        pass\n"),
    ("L7", "def f(a):\n    return a / 2\n"), ("L7", "def f(a):\n    return 0.5\n"),
    ("L7", "def f(a):\n    return b\"\"\n"),
    ("L7", "def f(a):\n    return any(b for b in a)\n"), ("L7", "def f(a):\n    return {b for b in a}\n"),
    ("L7", "def f(a):\n    return {b: b for b in a}\n"), ("L7", "def f(a):\n    return [*a]\n"),
    ("L7", "def f(a):\n    return [c for b in a for c in b]\n"), ("L7", "def f(a):\n    return f\"{a + 1}\"\n"),
    ("L7", "def f(a):\n    if (b := a):\n        return b\n"), ("L7", "def f(a):\n    yield a\n"),
    ("L8", "def f(a):\n    return map(f, a)\n"), ("L8", "def f(a):\n    return object()\n"),
    ("L8", "def f(a):\n    print(a)\n"),
    ("L10", "def f(a):\n" + "    a = a\n" * 40), ("L10", "A = 1\n" * 401), ("L10", "A = \"" + "a" * 120 + "\"\n"),
    ("L12", "def f(a):\n    for _ in a:\n        pass\n"), ("L12", "def f(_a):\n    pass\n"),
    ("L14", "A = \"\u00e9\"\n"), ("L14", "def f():\n\treturn 1\n"),
    ("L15", "A = 1\nA = 2\n"), ("L15", "A = [[1]]\n"), ("L15", "def f(id):\n    pass\n"),
    ("L15", "A = [1]\n\n\ndef f():\n    A.append(2)\n"), ("L15", "def f():\n    class A:\n        pass\n"),
    ("L16", "from leafjudge.errors import Nothing\n"), ("L17", "# a type of tree\n"),
    ("L17", "def f(a):\n    return a.mro\n"),
    ("L18", "class A:\n    def f(self):\n        pass\n\n    def f(self):\n        pass\n"),
    ("L19", "def f(a):\n    try:\n        a()\n    except Exception:\n        pass\n"),
    ("L19", "def f(a):\n    try:\n        a()\n    except TypeError:\n        pass\n"),
    ("L20", "def f(a, b):\n    return a is b\n"), ("L21", "def f(a: int):\n    pass\n"),
    ("L22", "def f(a):\n    return int(a, base=2)\n"), ("L23", "def f(a):\n    return zip(a, a)\n"),
    ("L23", "def f(a):\n    b = a.items()\n    return len(b)\n"), ("L24", "def f(a):\n    return set(a)\n"),
    ("L25", "def f(a):\n    a.sort()\n"), ("L25", "def f(a):\n    return a.title()\n"),
    ("L26", "class A:\n    def __init__(self):\n        self.items = 1\n"),
    ("L27", "def f(a):\n    return 2 ** a\n"), ("L27", "A = \"a%b\"\n"), ("L27", "A = \"\\x41\"\n"),
    ("L28", "class A:\n    def __init__(self):\n        return None\n"),
]

RIGHT = '''"""Right rows."""

from leafjudge.errors import NoRow, NoText

A = (1, "a", None, (True, -1))
B = {"a": (1, 2)}


class C:
    """A class."""

    def __init__(self, first, second=None):
        self.first = first
        self.second = second

    def told(self):
        return self.first


def f(a, b):
    total = 0
    for k, (one, other) in enumerate(zip(a, b)):
        total += k if one is not None and other in A else B.get("a", (0, 0))[0]
    while total > 3:
        total = total // 2
    try:
        total = C(total).told() + B["a"][0]
    except (KeyError, NoText) as e:
        raise NoRow(f"a {total} {e!r}\\n") from e
    inner = sorted([one for one in a if one], key=lambda one: -one, reverse=True)
    inner.append(len(set(inner)) ** 2)
    return ", ".join([str(one) for one in inner])
'''


def texts_of_package():
    found = [path for path in FOLDER.rglob("*") if "__pycache__" not in path.parts]
    return {str(path.relative_to(FOLDER)): path.read_text(encoding="utf-8") for path in found}


class Language(unittest.TestCase):
    def with_file(self, name, text):
        package = texts_of_package()
        return faults_of({"__init__.py": package["__init__.py"], "errors.py": package["errors.py"], name: text})

    def test_the_package_keeps_to_the_rules(self):
        files = texts_of_package()
        self.assertIn("errors.py", files)
        self.assertEqual(faults_of(files), [])

    def test_right_rows_are_let_pass(self):
        self.assertEqual(self.with_file("another.py", RIGHT), [])

    def test_wrong_rows_are_seen(self):
        for rule, text in WRONG:
            seen = [fault[1] for fault in self.with_file("another.py", text)]
            self.assertIn(rule, seen, text[:200])

    def test_wrong_files_are_seen(self):
        for rule, name in [("L1", "Another.py"), ("L1", "a-b.py"), ("L14", "test_a.py"), ("L14", "range.py")]:
            self.assertIn(rule, [fault[1] for fault in self.with_file(name, "A = 1\n")], name)
        self.assertIn("L1", [fault[1] for fault in self.with_file("notes.txt", "A")])

    def test_files_that_draw_from_one_another_are_seen(self):
        files = {"__init__.py": "", "one.py": "from leafjudge.other import B\n\nA = 1\n",
                 "other.py": "from leafjudge.one import A\n\nB = 1\n"}
        self.assertEqual([fault[1] for fault in faults_of(files)], ["L16", "L16"])


if __name__ == "__main__":
    unittest.main()
