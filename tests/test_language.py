"""The package keeps to ../shared/LANGUAGE.md, as far as its syntax shows."""

import ast
import re
import unittest
from pathlib import Path

from language import complaints, imports_of, own_attributes

PACKAGE = Path(__file__).resolve().parent.parent / "silencers"
BROKEN = [
    ("L2", "import math\n"), ("L2", "from os import path\n"), ("L2", "from silencers.webs import Web as W\n"),
    ("L2", "from .webs import Web\n"), ("L2", "A = 1\nfrom silencers.webs import Web\n"), ("L3", "print()\n"),
    ("L3", "A, B = 1, 2\n"), ("L3", "A = len([1])\n"), ("L4", "@f\ndef g():\n    return 1\n"),
    ("L5", "class A:\n    def __hash__(self):\n        return 1\n"), ("L5", "class A:\n    x: int = 1\n"),
    ("L6", "def f():\n    global A\n"), ("L6", "def f():\n    yield 1\n"), ("L6", "def f():\n    return 1 / 2\n"),
    ("L6", "def f(x):\n    return list(k for k in x)\n"), ("L6", "def f(x):\n    del x.y\n"),
    ("L7", "A = 1.5\n"), ("L8", "def f():\n    print(1)\n"), ("L8", "def f(x):\n    return bin(x)\n"),
    ("L10", "A = 1" + " " * 120 + "\n"), ("L10", "def f():\n" + "    pass\n" * 40), ("L10", "\n" * 400),
    ("L10", "def f():\n\treturn 1\n"), ("L12", "__a = 1\n"), ("L14", "A = 'caf\u00e9'\n"), ("L15", "A = 1\nA = 2\n"),
    ("L15", "def f(list):\n    return 1\n"), ("L15", "class A:\n    pass\n\n\ndef f(A):\n    return 1\n"),
    ("L17", "def f(x):\n    register = 1\n"), ("L17", "A = 'a type'\n"), ("L17", "def f(x):\n    return x.__dict__\n"),
    ("L18", "class A:\n    def x(self):\n        self.x = 1\n"), ("L19", "def f(x):\n    raise x\n"),
    ("L20", "def f(x):\n    return x is f\n"), ("L22", "def f(x):\n    return len\n"),
    ("L22", "def f(x):\n    return int(x, base=2)\n"), ("L23", "def f(x):\n    y = range(x)\n"),
    ("L23", "def f(x):\n    return f(range(x))\n"), ("L23", "def f(x):\n    return len(x.values())\n"),
    ("L24", "def f(x):\n    return set(x)\n"), ("L24", "def f(x):\n    return {k for k in x}\n"),
    ("L25", "def f(x):\n    return x.bit_count()\n"), ("L17", "def f(x):\n    x.sort()\n"), ("L27", "A = '%'\n"),
    ("L27", "def f(n):\n    return 2 ** n\n"), ("L28", "class A:\n    def __init__(self):\n        return None\n"),
]


class Language(unittest.TestCase):
    def setUp(self):
        self.files = sorted(path for path in PACKAGE.iterdir() if path.name != "__pycache__")
        self.texts = {path.stem: path.read_text("utf-8") for path in self.files}
        self.trees = {name: ast.parse(text) for name, text in self.texts.items()}

    def test_files(self):
        for path in self.files:
            self.assertTrue(path.is_file() and re.fullmatch(r"[a-z0-9_]+\.py", path.name), path.name)

    def test_rules(self):
        own_names = own_attributes(self.trees.values())
        for name, text in self.texts.items():
            self.assertEqual(complaints(text, own_names), [], name)

    def test_what_breaks_a_rule_is_found(self):
        for rule, text in BROKEN:
            self.assertIn(rule, [found for found, _ in complaints(text, set())], text)

    def test_imports_name_the_file_that_defines(self):
        for name, tree in self.trees.items():
            for module, thing in imports_of(tree):
                defining = self.trees[module.split(".")[1]]
                names = [node.name for node in defining.body if isinstance(node, (ast.FunctionDef, ast.ClassDef))]
                names += [node.targets[0].id for node in defining.body if isinstance(node, ast.Assign)]
                self.assertIn(thing, names, (name, module))

    def test_no_imports_in_a_circle(self):
        left = {name: {module.split(".")[1] for module, _ in imports_of(tree)} for name, tree in self.trees.items()}
        while left:
            ready = [name for name, needed in left.items() if not needed & set(left)]
            self.assertTrue(ready, left)
            left = {name: needed for name, needed in left.items() if name not in ready}

    def test_imports_are_used(self):
        for name, tree in self.trees.items():
            used = {node.id for node in ast.walk(tree) if isinstance(node, ast.Name)}
            for _, thing in imports_of(tree):
                self.assertIn(thing, used, name)


if __name__ == "__main__":
    unittest.main()
