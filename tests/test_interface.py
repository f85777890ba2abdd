"""Each name of the interface is defined in its own file, with its arguments."""

import ast
import unittest
from functools import lru_cache
from pathlib import Path

PACKAGE = Path(__file__).resolve().parent.parent / "silencers"
FUNCTIONS = {
    "webs": {
        "tied_to": 2, "tie": 3, "untie": 3, "renamed": 2, "beside": 2, "joined": 2, "kept": 2, "put_in": 3, "copied": 2,
        "row": 1, "ring": 1, "full": 1,
    },
    "shapes": {"pieces": 1, "twins": 1, "renaming": 2},
    "texts": {"web_text": 1, "lot_text": 1},
    "reading": {"read_web": 1, "read_lot": 1},
    "calls": {"tells": 3, "called": 3, "called_all": 3, "changers": 2, "is_rest": 2},
    "rests": {
        "many_rests": 1, "rest_number": 2, "many_with": 3, "most_rests": 1, "rests": 1, "rest_at": 2,
        "smallest_rest": 1, "greatest_rest": 1, "held_by": 2, "is_fullest": 1, "fullest_web": 1, "rest_sizes": 1,
    },
    "coming": {
        "lumps": 2, "ends": 2, "can_come": 3, "is_row_to": 4, "is_two_ends": 3, "row_to": 3, "missed": 3, "sure_end": 2,
        "two_ends": 2, "many_ends": 2, "most_changes": 2, "longest_row": 2,
    },
    "chances": {"end_chances": 2, "mean_calls": 2},
    "helping": {"fewest_puts": 3, "puts": 3, "drift": 3},
    "lists": {"shown": 2, "is_showing": 3, "is_lack": 2, "can_be_shown": 1, "lack": 1, "within": 1},
    "making": {
        "web_for": 1, "bare_web": 1, "fewest_hidden": 1, "closed_up": 1, "listed_both": 2, "listed_either": 2,
        "side_by_side": 2, "seen_at": 2, "missing": 1,
    },
    "strokes": {
        "course_end": 4, "stroke_ends": 3, "course_to": 4, "sure_stroke": 2, "two_courses": 2, "is_two_courses": 3,
    },
    "writing": {"fewest_held": 2, "sure_strokes": 2, "writing": 2, "is_writing": 3},
    "stores": {"strokes_between": 3, "best_letters": 2, "is_store": 3},
    "healing": {
        "heals": 3, "is_harm": 4, "strength": 2, "harm": 3, "healing_web": 2, "slip": 3, "weakest": 1,
    },
    "logs": {
        "fits": 2, "behind": 1, "wrong_call": 2, "stuck_call": 1, "barred": 1, "choices": 1, "web_of": 1, "same_log": 3,
    },
    "sparse": {"sure_ties": 1, "open_ties": 1, "most_ties": 1, "sparse_web": 1, "fewest_ties": 1, "verdict": 2},
    "nets": {
        "net_called": 3, "net_rests": 1, "net_comes": 2, "odd_round": 1, "net_row": 3, "is_odd_round": 2, "net_of": 1,
        "net_round": 2, "any_round": 1, "only_rest": 1, "is_any_round": 2,
    },
    "groups": {"called_at_once": 3, "restless": 1, "is_restless": 2, "at_once_end": 3},
    "listtexts": {"list_text": 1, "log_text": 1, "read_list": 1, "read_log": 1},
    "apart": {
        "building": 1, "is_building": 2, "is_built": 1, "rests_by": 1, "blocks": 1, "turned_by": 3, "taken_out": 2,
        "needs": 3,
    },
    "strangers": {"led": 4, "led_end": 3, "lazy": 2},
}
ERRORS = {
    "WebError": None, "BadWeb": ["part"], "NoPart": [], "NoNames": [], "NoLot": [], "NoNumber": [], "BadText": ["line"],
    "NoStand": [], "NoRow": [], "NoRest": [], "TooMany": ["most"], "BadList": ["part"], "NoShowing": [], "NotShown": [],
    "OtherPlaces": [], "NoStands": [], "NoStroke": [], "NoCourse": [], "NoLetters": [], "NoLog": [], "OtherSize": [],
    "NoWeb": [], "BadNet": ["part"], "NoBlock": [], "NothingDone": [], "BadCall": ["stand"], "NoLine": [],
    "NoName": ["name"],
}
CLASSES = {
    "boards": {"Board": {
        "__init__": ["web"], "tie": ["a", "b"], "untie": ["a", "b"], "put": ["part"], "drop": ["part"], "call": ["part"],
        "web": [], "stand": [], "changers": [], "ends": [], "back": [], "deeds": [], "copy": [],
    }},
    "desks": {"Desk": {"__init__": [], "tell": ["line"], "undoable": []}},
    "lists": {"List": {"__init__": ["places", "stands"], "__eq__": ["other"]}},
    "nets": {"Net": {"__init__": ["size", "arrows"], "__eq__": ["other"]}},
    "webs": {"Web": {"__init__": ["size", "ties"], "__eq__": ["other"]}},
    "runs": {"Run": {
        "__init__": ["web", "stand"], "call": ["part"], "stand": [], "log": [], "changes": [], "back": ["many"],
        "copy": [], "trying": ["action"],
    }},
}


@lru_cache(maxsize=100)
def defined(module, kind):
    tree = ast.parse((PACKAGE / f"{module}.py").read_text("utf-8"))
    return {node.name: node for node in tree.body if isinstance(node, kind)}


def names_of(function):
    arguments = function.args
    assert not (arguments.vararg or arguments.kwarg or arguments.kwonlyargs or arguments.defaults)
    return [argument.arg for argument in arguments.args]


class Interface(unittest.TestCase):
    def test_functions(self):
        for module, wanted in FUNCTIONS.items():
            found = defined(module, ast.FunctionDef)
            for name, many in wanted.items():
                self.assertEqual(len(names_of(found[name])), many, name)

    def test_classes(self):
        for module, classes in CLASSES.items():
            found = defined(module, ast.ClassDef)
            for name, methods in classes.items():
                inside = {node.name: node for node in found[name].body if isinstance(node, ast.FunctionDef)}
                for method, wanted in methods.items():
                    self.assertEqual(names_of(inside[method])[1:], wanted, (name, method))

    def test_errors(self):
        found = defined("errors", ast.ClassDef)
        self.assertEqual(sorted(found), sorted(ERRORS))
        for name, wanted in ERRORS.items():
            self.assertEqual([base.id for base in found[name].bases], ["WebError" if wanted is not None else "ValueError"])
            made = [node for node in found[name].body if isinstance(node, ast.FunctionDef)]
            self.assertEqual([names_of(node)[1:] for node in made], [] if wanted is None else [wanted], name)

    def test_no_name_is_defined_in_two_files(self):
        listed = [name for names in list(FUNCTIONS.values()) + list(CLASSES.values()) for name in names]
        self.assertEqual(len(listed), len(set(listed)))
        files = [path.stem for path in PACKAGE.glob("*.py")]
        kinds = (ast.FunctionDef, ast.ClassDef)
        for name in listed:
            self.assertEqual(len([stem for stem in files if name in defined(stem, kinds)]), 1, name)


if __name__ == "__main__":
    unittest.main()
