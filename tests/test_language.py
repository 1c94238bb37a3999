"""The package keeps to its part of Python, as far as that can be seen from its text."""

import ast
import pathlib
import unittest

from language import PACKAGE, faults

FOLDER = pathlib.Path(__file__).resolve().parent.parent / PACKAGE

SENT_BACK = (
    "import math\n", "from math import gcd\n", "from . import errors\n", "from hingedraw.errors import *\n",
    "def f(*rest):\n    return rest\n", "def f(x):\n    'words'\n    return x\n", "def f(x):\n    return x / 2\n",
    "def f(x):\n    return 2 ** x\n", "def f(x):\n    return x is x\n", "def f(x):\n    a = b = x\n    return a\n",
    "def f(x):\n    return type(x)\n", "def f(x):\n    return eval(x)\n", "def f(id):\n    return id\n",
    "def f(x):\n    return 'a%'\n", "def f(x):\n    return 1.5\n", "def f(x):\n    return {a for a in x}\n",
    "def f(x):\n    with x:\n        pass\n", "class A:\n    x = 1\n", "x = 1\nx = 2\n", "def f(_x):\n    return 1\n",
    "x = 1\nif x:\n    y = 2\n", "def f(x):\n" + "    x = x + 1\n" * 40, "# " + "x" * 120 + "\n", "# \u00e4\n", "# the type\n",
    "def f(x):\n    try:\n        return x[0]\n    except Exception:\n        return 1\n",
    "from hingedraw.errors import NoRoot\n\n\ndef f(NoRoot):\n    return NoRoot\n",
    "from hingedraw.roots import made\n\n\ndef f(x):\n    made = x\n    return made\n",
    "def f(x):\n    return [a for a in x for b in a]\n", "def f(x):\n    return x._hidden\n", "@f\ndef g():\n    pass\n",
    "def f(x):\n    return x.title()\n", "def f(x):\n    x.sort()\n", "x = 1 + 1\n", "x = (1, [y])\n", "x = [[1]]\n",
    "x = {1: {}}\n",
)

TAKEN = (
    '"""Words."""\n\nfrom hingedraw.errors import NoRoot\n\nA = (0, 1)\n\n\ndef f(x):\n    # why\n    return x ** 2 is None\n',
    "class A(ValueError):\n\n    def __init__(self, x):\n        self.x = x\n",
    "x = {1: (1, -1), 'a': ()}\n", "class A:\n\n    def f(self):\n        return self.g()\n\n    def g(self):\n        pass\n",
    "def f(x):\n    for k, one in enumerate(x):\n        if one is True:\n            return f'{k}'\n    return None\n",
)


class LanguageTest(unittest.TestCase):

    def test_every_file(self):
        for path in sorted(FOLDER.rglob("*.py")):
            with self.subTest(path.name):
                self.assertEqual(faults(path.read_text(encoding="utf-8")), [])

    def test_nothing_else_lies_in_the_package(self):
        for path in FOLDER.iterdir():
            if path.name != "__pycache__":
                self.assertRegex(path.name, r"\A(__init__|[a-z][a-z0-9_]*)\.py\Z")
        self.assertTrue((FOLDER / "__init__.py").is_file())

    def test_imports_are_drawn_from_where_they_are_made(self):
        for path in sorted(FOLDER.rglob("*.py")):
            for node in ast.parse(path.read_text(encoding="utf-8")).body:
                if isinstance(node, ast.ImportFrom):
                    drawn = FOLDER.parent / (node.module.replace(".", "/") + ".py")
                    tree = ast.parse(drawn.read_text(encoding="utf-8"))
                    made = [part.name for part in tree.body if isinstance(part, (ast.FunctionDef, ast.ClassDef))]
                    made += [part.targets[0].id for part in tree.body if isinstance(part, ast.Assign)]
                    for name in node.names:
                        self.assertIn(name.name, made, path.name)

    def test_no_two_files_draw_from_one_another(self):
        drawn = {}
        for path in sorted(FOLDER.rglob("*.py")):
            tree = ast.parse(path.read_text(encoding="utf-8"))
            drawn[PACKAGE + "." + path.stem] = {node.module for node in tree.body if isinstance(node, ast.ImportFrom)}
        # Files that draw from nothing that is left are taken away, until none is left.
        while drawn:
            ready = [name for name, others in drawn.items() if not others & set(drawn)]
            self.assertNotEqual(ready, [], sorted(drawn))
            drawn = {name: others for name, others in drawn.items() if name not in ready}

    def test_the_look_itself(self):
        for text in SENT_BACK:
            self.assertNotEqual(faults(text), [], text)
        for text in TAKEN:
            self.assertEqual(faults(text), [], text)


if __name__ == "__main__":
    unittest.main()
