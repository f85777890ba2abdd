"""0.3: the error classes."""

import unittest

from silencers import errors
from silencers.errors import WebError
from silencers.webs import Web
from things import things

FIELDS = {
    "BadWeb": "part", "NoPart": "", "NoNames": "", "NoLot": "", "NoNumber": "", "BadText": "line", "NoStand": "",
    "NoRow": "", "NoRest": "", "TooMany": "most", "BadList": "part", "NoShowing": "", "NotShown": "",
    "OtherPlaces": "", "NoStands": "", "NoStroke": "", "NoCourse": "", "NoLetters": "", "NoLog": "", "OtherSize": "",
    "NoWeb": "", "BadNet": "part", "NoBlock": "", "NothingDone": "", "BadCall": "stand", "NoLine": "",
    "NoName": "name",
}


def made(name, thing=0):
    kind = getattr(errors, name)
    return kind(thing) if FIELDS[name] else kind()


class Errors(unittest.TestCase):
    def test_classes(self):
        self.assertEqual(WebError.__bases__, (ValueError,))
        for name in FIELDS:
            self.assertEqual(getattr(errors, name).__bases__, (WebError,), name)

    def test_there_are_no_others(self):
        found = [name for name, value in vars(errors).items() if isinstance(value, type)]
        self.assertEqual(sorted(found), sorted(list(FIELDS) + ["WebError"]))

    def test_fields(self):
        for name, field in FIELDS.items():
            self.assertEqual(list(vars(made(name))), [field] if field else [], name)

    def test_made_with_just_the_fields(self):
        for name, field in FIELDS.items():
            kind = getattr(errors, name)
            wrong = [(), (1, 2)] if field else [(1,), (1, 2)]
            for passed in wrong:
                with self.assertRaises(TypeError, msg=name):
                    kind(*passed)

    def test_fields_keep_what_was_passed(self):
        more = [(), [], [1, [2]], {"a": [1]}, 0, 12, "a text", Web(2, ((0, 1),)), (1, (2, [3]))]
        for name, field in FIELDS.items():
            for thing in things() + more if field else []:
                self.assertIs(getattr(made(name, thing), field), thing)

    def test_raised_and_caught(self):
        for name in FIELDS:
            error = made(name, [1, 2])
            for kind in (getattr(errors, name), WebError, ValueError):
                try:
                    raise error
                except kind as caught:
                    self.assertIs(caught, error)

    def test_not_caught_as_another(self):
        for name in FIELDS:
            for other in FIELDS:
                self.assertEqual(isinstance(made(name), getattr(errors, other)), name == other)


if __name__ == "__main__":
    unittest.main()
