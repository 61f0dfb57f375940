import pathlib
import unittest

from language import faults
from language_places import package_faults, place_faults

PACKAGE = pathlib.Path(__file__).resolve().parent.parent / "forestread"

WRONG = [
    "import sys\n",
    "from os import path\n",
    "from . import errors\n",
    "from forestread.errors import *\n",
    "from forestread import errors\n",
    "for word in []:\n    pass\n",
    "ONE = 1\nONE = 2\n",
    "GREAT = max(1, 2)\n",
    "def f(*xs):\n    return xs\n",
    "def f(xs):\n    return [x for x in xs for y in xs]\n",
    "def f(xs):\n    return {x: 1 for x in xs}\n",
    "def f(xs):\n    return any(x for x in xs)\n",
    "def f(x):\n    return x / 2\n",
    "def f(x):\n    return 2 ** x\n",
    "def f(x):\n    return 0.5\n",
    "def f(x):\n    return b''\n",
    "def f(x):\n    return 'a%'\n",
    "def f(x):\n    return x is 1\n",
    "def f(x):\n    return chr(x)\n",
    "def f(x):\n    return x.sort()\n",
    "def f(x):\n    return x.__class__\n",
    "def f(x):\n    return (y := x)\n",
    "def f(x):\n    assert x\n",
    "def f(x):\n    x = y = 1\n",
    "def f(x):\n    yield x\n",
    "def f(x):\n    x\n",
    "def f(x):\n    'words'\n    return x\n",
    "def f(id):\n    return id\n",
    "def f(_x):\n    return 1\n",
    "def f(x):\n    for y in x:\n        pass\n    else:\n        pass\n",
    "def f(x):\n    try:\n        x()\n    except Exception:\n        pass\n",
    "def f(x):\n    try:\n        x()\n    except TypeError:\n        pass\n",
    "def f(x):\n    try:\n        x()\n    except:\n        pass\n",
    "def f(x):\n" + "    x = 1\n" * 40,
    "class C:\n    kept = 1\n",
    "class C:\n    'words'\n",
    "# the type of it\n",
    "# " + "a" * 120 + "\n",
    "# \u00e4\n",
    "ONE = 1\t\n",
]

WRONG_PLACES = [
    "def f(xs):\n    numbers = range(len(xs))\n    return xs\n",
    "def f(xs):\n    return reversed(xs)\n",
    "def f(xs):\n    return zip(xs, reversed(xs))\n",
    "def f(d):\n    pairs = d.items()\n    return 1\n",
    "def f(xs):\n    seen = set(xs)\n    return 1\n",
    "def f(xs):\n    for x in set(xs):\n        pass\n",
    "def f(xs):\n    return sorted(set(xs), reverse=True)\n",
    "def f(x):\n    return int(x, base=2)\n",
    "def f(x):\n    return x.split(sep=' ')\n",
    "def f(x):\n    return f'{x + 1}'\n",
    "def f(x):\n    return f'{x:3}'\n",
    "def f(xs):\n    for x in xs:\n        xs.append(x)\n",
    "def f(xs):\n    for place, x in enumerate(xs):\n        xs[place] = 1\n",
    "def f(xs):\n    measure = len\n    return 1\n",
    "def f(x):\n    a, b = x\n    return a\n",
    "from forestread.errors import NoText\n\n\ndef f(NoText):\n    return 1\n",
    "class C:\n    pass\n\n\ndef f(x):\n    C = x\n    return C\n",
]

WRONG_PACKAGES = [
    {"a.py": "class A:\n    def told(self):\n        return 1\n", "b.py": "class B:\n    def __init__(self):\n        self.told = 1\n"},
    {"a.py": "from forestread.b import one\n", "b.py": "two = 2\n"},
    {"a.py": "from forestread.b import two\n", "b.py": "from forestread.c import two\n", "c.py": "two = 2\n"},
    {"a.py": "from forestread.b import two\n\none = 1\n", "b.py": "from forestread.a import one\n\ntwo = 2\n"},
    {"a.py": "from forestread.none import two\n"},
]

RIGHT_PLACES = [
    "def f(xs):\n    return sorted(set(xs)) + [x for x in reversed(xs)] + list(zip(xs, xs))\n",
    "def f(xs):\n    return len(set(xs) - set([1])) if 1 in set(xs) else min(xs, default=0)\n",
    "def f(x):\n    return f'{x}: {x!r}' if isinstance(x, (int, str)) else max(xs, key=len)\n",
    "def f(d):\n    for key in list(d):\n        d[key] = 1\n    for key, x in d.items():\n        print(x)\n",
]

RIGHT = [
    "",
    "\"\"\"Words.\"\"\"\n\nfrom forestread.errors import NoText\n\nONE = 1\nPAIR = (ONE, 'a')\n",
    "def f(x):\n    return [y for y in x if y is not None] + sorted(x, key=len)\n",
    "def f(x):\n    return 10 ** 60 if x else None\n",
    "class C:\n    def __init__(self, x):\n        self.kept = x\n",
    "def f(x):\n    try:\n        return x['a']\n    except KeyError:\n        return None\n",
]


class LanguageTest(unittest.TestCase):

    def test_each_file_of_the_package(self):
        files = sorted(PACKAGE.glob("*.py"))
        self.assertIn("__init__.py", [file.name for file in files])
        for file in files:
            with self.subTest(file.name):
                self.assertEqual(faults(file.name, file.read_bytes().decode("utf-8")), [])

    def test_where_things_stand_in_each_file(self):
        for file in sorted(PACKAGE.glob("*.py")):
            with self.subTest(file.name):
                self.assertEqual(place_faults(file.name, file.read_text(encoding="utf-8")), [])

    def test_the_files_together(self):
        sources = {file.name: file.read_text(encoding="utf-8") for file in PACKAGE.glob("*.py")}
        self.assertEqual(package_faults(sources), [])

    def test_wrong_places_are_seen(self):
        for source in WRONG_PLACES:
            with self.subTest(source):
                self.assertNotEqual(place_faults("some.py", source), [])
        for sources in WRONG_PACKAGES:
            with self.subTest(sources):
                self.assertNotEqual(package_faults(sources), [])

    def test_right_places_are_let_through(self):
        for source in RIGHT_PLACES:
            with self.subTest(source):
                self.assertEqual(place_faults("some.py", source), [])

    def test_nothing_else_lies_in_the_package(self):
        others = [file.name for file in PACKAGE.iterdir() if file.suffix != ".py" and file.name != "__pycache__"]
        self.assertEqual(others, [])

    def test_wrong_code_is_seen(self):
        for source in WRONG:
            with self.subTest(source):
                self.assertNotEqual(faults("some.py", source), [])

    def test_right_code_is_let_through(self):
        for source in RIGHT:
            with self.subTest(source):
                self.assertEqual(faults("some.py", source), [])

    def test_wrong_file_names(self):
        for name in ("Some.py", "test_some.py", "len.py", "enum.py", "some.txt", "tests.py", "so-me.py"):
            with self.subTest(name):
                self.assertNotEqual(faults(name, ""), [])


if __name__ == "__main__":
    unittest.main()
