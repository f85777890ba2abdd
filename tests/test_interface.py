"""Each name of the interface is defined in its own file, with its arguments."""

import ast
import unittest
from pathlib import Path

PACKAGE = Path(__file__).resolve().parent.parent / "silencers"
FUNCTIONS = {
    "webs": {
        "tied_to": 2, "tie": 3, "untie": 3, "renamed": 2, "beside": 2, "joined": 2, "kept": 2, "put_in": 3, "copied": 2,
        "row": 1, "ring": 1, "full": 1,
    },
    "shapes": {"pieces": 1, "twins": 1, "renaming": 2},
    "texts": {"web_text": 1, "lot_text": 1},
    "reading": {"read_web": 1, "read_lot": 1},
    "calls": {"tells": 3, "called": 3, "called_all": 3, "changers": 2, "is_rest": 2},
    "rests": {
        "many_rests": 1, "rest_number": 2, "many_with": 3, "most_rests": 1, "rests": 1, "rest_at": 2,
        "smallest_rest": 1, "greatest_rest": 1, "held_by": 2, "is_fullest": 1, "fullest_web": 1, "rest_sizes": 1,
    },
}
CLASSES = {
    "webs": {"Web": {"__init__": ["size", "ties"], "__eq__": ["other"]}},
    "runs": {"Run": {
        "__init__": ["web", "stand"], "call": ["part"], "stand": [], "log": [], "changes": [], "back": ["many"],
        "copy": [], "trying": ["action"],
    }},
}


def defined(module, kind):
    tree = ast.parse((PACKAGE / f"{module}.py").read_text("utf-8"))
    return {node.name: node for node in tree.body if isinstance(node, kind)}


def names_of(function):
    arguments = function.args
    assert not (arguments.vararg or arguments.kwarg or arguments.kwonlyargs or arguments.defaults)
    return [argument.arg for argument in arguments.args]


class Interface(unittest.TestCase):
    def test_functions(self):
        for module, wanted in FUNCTIONS.items():
            found = defined(module, ast.FunctionDef)
            for name, many in wanted.items():
                self.assertEqual(len(names_of(found[name])), many, name)

    def test_classes(self):
        for module, classes in CLASSES.items():
            found = defined(module, ast.ClassDef)
            for name, methods in classes.items():
                inside = {node.name: node for node in found[name].body if isinstance(node, ast.FunctionDef)}
                for method, wanted in methods.items():
                    self.assertEqual(names_of(inside[method])[1:], wanted, (name, method))


if __name__ == "__main__":
    unittest.main()
