"""7.1: strokes between letters, and stores."""

import unittest
from itertools import combinations, permutations, product
from random import Random

from silencers.calls import is_rest
from silencers.errors import NoLetters, NoNumber, TooMany
from silencers.rests import many_rests, rest_at, rests
from silencers.stores import best_letters, is_store, strokes_between
from silencers.strokes import stroke_ends
from silencers.webs import Web, beside, copied, full, ring, row
from things import Raising, Strokes, all_strokes, all_webs, no_lots, no_numbers, no_strokes, random_web, things

LATCH = Web(2, ((0, 1),))
FEW = [web for size in (1, 2, 3) for web in all_webs(size)] + all_webs(4)[::4]
FIVES = [row(5), ring(5), random_web(5, 3, 2), random_web(5, 6, 3), Web(5, ((0, 1), (2, 3)))]
TENS = [row(7), ring(8), random_web(10, 4, 5), full(10), copied(row(5), 2), Web(10, ((0, 1), (2, 3), (4, 5)))]
PROBES = (row(4), full(3), Web(2, ()), copied(row(4), 6), ring(9))
TWOS = Web(22, tuple((k, k + 1) for k in range(0, 22, 2)))


def plain_strokes(found, letters, held):
    """For each letter the stroke that strokes_between tells, found by all courses of all strokes."""
    strokes = sorted((len(up + down), (up, down)) for up, down in all_strokes(found.web.size))
    answer = []
    for letter in letters:
        right = [stroke for many, stroke in strokes if many <= held and found.of_all(letters, stroke) == [letter]]
        answer.append(right[0] if right else None)
    return tuple(answer)


def plain_best(found, held):
    for many in range(min(12, len(found.rests)), 0, -1):
        for letters in combinations(found.rests, many):
            if None not in plain_strokes(found, letters, held):
                return letters
    return None


def no_letters(web):
    found = rests(web)
    wrong = [thing for thing in things() if thing != ((0,),) or not is_rest(web, (0,))]
    wrong += [(), [found[0]], list(found), found[0], found[:1] * 2, (found[0], found[0]), tuple(found) + ((),)]
    wrong += [(found[0], list(found[0])), (found[0], None), {found[0]: 0}, ((),), ((0, 1),) * 13]
    inside = [lot for lot in no_lots(web.size) + [(0, 1), (), (1,)] if not is_rest(web, lot)]
    return wrong + [(lot,) for lot in inside] + [(found[0], lot) for lot in inside]


class SmallWebs(unittest.TestCase):
    @classmethod
    def setUpClass(cls):
        cls.found = [Strokes(web) for web in FEW + FIVES]

    def test_strokes_between(self):
        for found in self.found:
            for many in range(1, len(found.rests) + 1):
                for letters in list(permutations(found.rests, many))[::1 if found.web.size < 5 else 5]:
                    for held in (1, 2, 3):
                        strokes = strokes_between(found.web, letters, held)
                        self.assertIsInstance(strokes, tuple)
                        self.assertEqual(strokes, plain_strokes(found, letters, held))

    def test_best_letters(self):
        for found in self.found:
            for held in (1, 2, 3):
                letters = best_letters(found.web, held)
                self.assertIsInstance(letters, tuple)
                self.assertEqual(letters, plain_best(found, held))

    def test_is_store(self):
        luck = Random(2)
        for found in self.found:
            every = all_strokes(found.web.size)
            for many in range(1, min(3, len(found.rests)) + 1):
                for letters in list(permutations(found.rests, many))[::3]:
                    right = [[stroke for stroke in every if found.of_all(letters, stroke) == [letter]]
                             for letter in letters]
                    some = list(product(*[luck.sample(one, min(5, len(one))) for one in right]))
                    for strokes in some[:40]:
                        self.assertIs(is_store(found.web, letters, strokes), True)
                    for _ in range(20):
                        strokes = tuple(luck.choice(every) for _ in letters)
                        wanted = all(stroke in one for stroke, one in zip(strokes, right))
                        self.assertIs(is_store(found.web, letters, strokes), wanted)

    def test_nothing_is_changed(self):
        web = row(4)
        letters = tuple(rests(web))
        strokes_between(web, letters, 2), best_letters(web, 1), is_store(web, letters, ())
        self.assertEqual((web, letters), (row(4), ((0, 2), (0, 3), (1, 3))))


class MoreParts(Raising, unittest.TestCase):
    def check(self, web, letters, strokes):
        """The strokes write the letters, by what stroke_ends tells, and are_store says so."""
        self.assertEqual(len(strokes), len(letters))
        for letter, stroke in zip(letters, strokes):
            self.assertTrue(all(stroke_ends(web, other, stroke) == [letter] for other in letters))
        self.assertIs(is_store(web, letters, strokes), True)
        for at in range(len(letters)):
            if len(letters) > 1:
                turned = strokes[1:] + strokes[:1]
                self.assertIs(is_store(web, letters, strokes[:at] + (turned[at],) + strokes[at + 1:]), False)

    def test_strokes_between(self):
        luck = Random(1)
        for web in TENS:
            found = rests(web)
            strokes = sorted((len(up + down), (up, down)) for up, down in all_strokes(web.size) if len(up + down) < 3)
            for many in (1, 2, 4):
                letters = tuple(luck.sample(found, min(many, len(found))))
                told = strokes_between(web, letters, 2)
                for letter, stroke in zip(letters, told):
                    ahead = [one for one in strokes if stroke is None or one < (len(sum(stroke, ())), stroke)]
                    for _, other in ahead[::3]:
                        self.assertFalse(all(stroke_ends(web, one, other) == [letter] for one in letters))
                if None not in told:
                    self.check(web, letters, told)

    def test_best_letters(self):
        for web in TENS:
            if many_rests(web) > 8:
                continue
            for held in (1, 2, 3):
                letters = best_letters(web, held)
                self.assertEqual(letters, tuple(sorted(letters)))
                self.check(web, letters, strokes_between(web, letters, held))
                for more in combinations(rests(web), len(letters) + 1):
                    self.assertIn(None, strokes_between(web, more, held))
                for other in combinations(rests(web), len(letters)):
                    if other < letters:
                        self.assertIn(None, strokes_between(web, other, held))

    def test_twelve_letters(self):
        web = Web(10, tuple((k, k + 1) for k in range(0, 10, 2)))
        letters = tuple(rests(web)[:12])
        self.assertEqual(strokes_between(web, letters, 3), (None,) * 12)
        self.assertEqual(letters[:2], ((0, 2, 4, 6, 8), (0, 2, 4, 6, 9)))
        self.assertEqual(strokes_between(web, letters[:2], 1), (((), (9,)), ((), (8,))))
        self.check(web, letters[:2], strokes_between(web, letters[:2], 1))
        self.assertIs(is_store(web, letters, tuple((rest, ()) for rest in letters)), True)

    def test_is_store_of_big_webs(self):
        for web in (full(24), copied(row(4), 6), TWOS, beside(TWOS, full(24))):
            letters = tuple(rest_at(web, number) for number in range(3))
            strokes = tuple((rest, ()) for rest in letters)
            self.assertIs(is_store(web, letters, strokes), True)
            self.assertIs(is_store(web, letters, strokes[::-1]), False)
            self.assertIs(is_store(web, letters[::-1], strokes[::-1]), True)


class Wrong(Raising, unittest.TestCase):
    def test_no_letters(self):
        for web in PROBES:
            wrong = no_letters(web)
            self.raises_for_all(NoLetters, strokes_between, (web,), wrong, (1,))
            self.raises_for_all(NoLetters, strokes_between, (web,), wrong, (None,))
            self.raises_for_all(NoLetters, is_store, (web,), wrong, ((),))
            self.raises_for_all(NoLetters, is_store, (web,), wrong, (None,))
        full_web = full(13)
        thirteen = tuple(rests(full_web))
        self.raises(NoLetters, strokes_between, full_web, thirteen, 1)
        self.raises(NoLetters, is_store, full_web, thirteen, tuple((rest, ()) for rest in thirteen))
        self.assertIs(is_store(full_web, thirteen[:12], tuple((rest, ()) for rest in thirteen[:12])), True)

    def test_no_number(self):
        wrong = no_numbers() + [0, -1, 4, 5, 10 ** 59, -(10 ** 59)]
        for web in PROBES:
            self.raises_for_all(NoNumber, strokes_between, (web, (rests(web)[0],)), wrong)
            self.raises_for_all(NoNumber, best_letters, (web,), wrong)
        self.raises_for_all(NoNumber, best_letters, (TWOS,), wrong)

    def test_too_many_parts(self):
        for web in (row(11), Web(11, ()), full(24), copied(row(4), 6), TWOS):
            self.assertEqual(self.raises(TooMany, strokes_between, web, (rest_at(web, 0),), 1).most, 10)
            self.assertEqual(self.raises(TooMany, best_letters, web, 3).most, 10)
        self.assertEqual(best_letters(Web(10, ()), 1), (tuple(range(10)),))
        self.assertEqual(strokes_between(full(10), ((4,), (5,)), 1), (((4,), ()), ((5,), ())))

    def test_too_many_rests(self):
        self.assertEqual(len(best_letters(full(8), 1)), 8)
        eights = Web(6, ((0, 1), (2, 3), (4, 5)))
        self.assertEqual((many_rests(eights), len(best_letters(eights, 3))), (8, 8))
        for web in (full(9), full(10), beside(full(3), full(3)), ring(9)):
            self.assertGreater(many_rests(web), 8)
            self.assertEqual(self.raises(TooMany, best_letters, web, 1).most, 8)

    def test_what_is_no_store(self):
        for web in PROBES:
            letters = tuple(rests(web)[:2])
            strokes = tuple((rest, ()) for rest in letters)
            self.assertIs(is_store(web, letters, strokes), True)
            wrong = things() + [(), list(strokes), strokes[0], strokes + strokes[:1], strokes[:-1], (strokes,)]
            for thing in wrong:
                self.assertIs(is_store(web, letters, thing), False)
            for thing in no_strokes(web.size) + [None]:
                self.assertIs(is_store(web, letters, strokes[:-1] + (thing,)), False)
                self.assertIs(is_store(web, letters, (thing,) + strokes[1:]), False)


if __name__ == "__main__":
    unittest.main()
