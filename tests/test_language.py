import pathlib
import unittest

from language import faults

PACKAGE = pathlib.Path(__file__).resolve().parent.parent / "forestread"

WRONG = [
    "import sys\n",
    "from os import path\n",
    "from . import errors\n",
    "from forestread.errors import *\n",
    "from forestread import errors\n",
    "for word in []:\n    pass\n",
    "ONE = 1\nONE = 2\n",
    "GREAT = max(1, 2)\n",
    "def f(*xs):\n    return xs\n",
    "def f(xs):\n    return [x for x in xs for y in xs]\n",
    "def f(xs):\n    return {x: 1 for x in xs}\n",
    "def f(xs):\n    return any(x for x in xs)\n",
    "def f(x):\n    return x / 2\n",
    "def f(x):\n    return 2 ** x\n",
    "def f(x):\n    return 0.5\n",
    "def f(x):\n    return b''\n",
    "def f(x):\n    return 'a%'\n",
    "def f(x):\n    return x is 1\n",
    "def f(x):\n    return chr(x)\n",
    "def f(x):\n    return x.sort()\n",
    "def f(x):\n    return x.__class__\n",
    "def f(x):\n    return (y := x)\n",
    "def f(x):\n    assert x\n",
    "def f(x):\n    x = y = 1\n",
    "def f(x):\n    yield x\n",
    "def f(x):\n    x\n",
    "def f(x):\n    'words'\n    return x\n",
    "def f(id):\n    return id\n",
    "def f(_x):\n    return 1\n",
    "def f(x):\n    for y in x:\n        pass\n    else:\n        pass\n",
    "def f(x):\n    try:\n        x()\n    except Exception:\n        pass\n",
    "def f(x):\n    try:\n        x()\n    except TypeError:\n        pass\n",
    "def f(x):\n    try:\n        x()\n    except:\n        pass\n",
    "def f(x):\n" + "    x = 1\n" * 40,
    "class C:\n    kept = 1\n",
    "class C:\n    'words'\n",
    "# the type of it\n",
    "# " + "a" * 120 + "\n",
    "# \u00e4\n",
    "ONE = 1\t\n",
]

RIGHT = [
    "",
    "\"\"\"Words.\"\"\"\n\nfrom forestread.errors import NoText\n\nONE = 1\nPAIR = (ONE, 'a')\n",
    "def f(x):\n    return [y for y in x if y is not None] + sorted(x, key=len)\n",
    "def f(x):\n    return 10 ** 60 if x else None\n",
    "class C:\n    def __init__(self, x):\n        self.kept = x\n",
    "def f(x):\n    try:\n        return x['a']\n    except KeyError:\n        return None\n",
]


class LanguageTest(unittest.TestCase):

    def test_each_file_of_the_package(self):
        files = sorted(PACKAGE.glob("*.py"))
        self.assertIn("__init__.py", [file.name for file in files])
        for file in files:
            with self.subTest(file.name):
                self.assertEqual(faults(file.name, file.read_bytes().decode("utf-8")), [])

    def test_nothing_else_lies_in_the_package(self):
        others = [file.name for file in PACKAGE.iterdir() if file.suffix != ".py" and file.name != "__pycache__"]
        self.assertEqual(others, [])

    def test_wrong_code_is_seen(self):
        for source in WRONG:
            with self.subTest(source):
                self.assertNotEqual(faults("some.py", source), [])

    def test_right_code_is_let_through(self):
        for source in RIGHT:
            with self.subTest(source):
                self.assertEqual(faults("some.py", source), [])

    def test_wrong_file_names(self):
        for name in ("Some.py", "test_some.py", "len.py", "enum.py", "some.txt", "tests.py", "so-me.py"):
            with self.subTest(name):
                self.assertNotEqual(faults(name, ""), [])


if __name__ == "__main__":
    unittest.main()
