"""6.3, 6.4: sure strokes of the fewest held parts, and writings."""

import unittest
from itertools import permutations, product
from random import Random

from silencers.calls import is_rest
from silencers.errors import NoRest, TooMany
from silencers.rests import many_rests, rest_at, rests
from silencers.strokes import sure_stroke
from silencers.webs import Web, beside, copied, full, joined, ring, row
from silencers.writing import fewest_held, is_writing, sure_strokes, writing
from things import Raising, Strokes, all_strokes, all_webs, no_lots, no_strokes, random_web, small_webs, things

LATCH = Web(2, ((0, 1),))
FEW = [web for size in (1, 2, 3) for web in all_webs(size)] + all_webs(4)[::3]
FIVES = [row(5), ring(5), random_web(5, 3, 2), random_web(5, 6, 3), Web(5, ((0, 1), (2, 3)))]
PROBES = (row(4), full(3), Web(2, ()), copied(row(4), 6))


def ones(size):
    """The strokes that hold one part."""
    return [stroke for part in range(size) for stroke in (((part,), ()), ((), (part,)))]


def no_rests(web):
    wrong = [(), (0, 1), (1,), (0, 1, 2, 3), [0, 2], [0], (2, 0)]
    return no_lots(web.size) + [thing for thing in wrong if not is_rest(web, thing)]


def fewest_strokes(found, rest):
    """How many strokes of one part it takes, all rows of them gone through."""
    states = {tuple(found.rests)}
    many = 0
    while (rest,) not in states:
        states |= {tuple(found.of_all(now, stroke)) for now in states for stroke in ones(found.web.size)}
        many += 1
    return many


def is_written(found, rest, strokes):
    now = found.rests
    for stroke in strokes:
        now = found.of_all(now, stroke)
    return now == [rest]


class SmallWebs(unittest.TestCase):
    @classmethod
    def setUpClass(cls):
        cls.found = [Strokes(web) for web in FEW + FIVES]

    def test_example(self):
        self.assertIs(is_writing(LATCH, (0,), (((0,), ()),)), True)

    def test_sure_strokes(self):
        for found in self.found:
            web = found.web
            if web.size > 4:
                continue
            sure = {}
            for stroke in all_strokes(web.size):
                ends = found.of_all(found.rests, stroke)
                if len(ends) == 1:
                    sure.setdefault(ends[0], []).append(stroke)
            for rest in found.rests:
                fewest = min(len(up + down) for up, down in sure[rest])
                wanted = [(up, down) for up, down in sure[rest] if len(up + down) == fewest]
                self.assertIsInstance(sure_strokes(web, rest), list)
                self.assertEqual(sure_strokes(web, rest), sorted(wanted))
                self.assertEqual(fewest_held(web, rest), fewest)

    def test_writing(self):
        for found in self.found:
            for rest in found.rests:
                strokes = writing(found.web, rest)
                self.assertIsInstance(strokes, tuple)
                self.assertTrue(all(stroke in ones(found.web.size) for stroke in strokes))
                self.assertTrue(is_written(found, rest, strokes))
                self.assertEqual(len(strokes), fewest_strokes(found, rest))
                self.assertIs(is_writing(found.web, rest, strokes), True)

    def test_the_seventh_fact(self):
        for found in self.found:
            for rest in found.rests:
                for order in permutations(rest):
                    strokes = tuple(((part,), ()) for part in order)
                    self.assertIs(is_writing(found.web, rest, strokes), True)
                    self.assertTrue(is_written(found, rest, strokes))

    def test_is_writing(self):
        luck = Random(5)
        for found in self.found:
            size = found.web.size
            every = [strokes for many in range(3) for strokes in product(ones(size), repeat=many)]
            every += [tuple(luck.choice(ones(size)) for _ in range(luck.randrange(3, 8))) for _ in range(40)]
            for rest in found.rests:
                for strokes in every[::1 if size < 4 else 3]:
                    self.assertIs(is_writing(found.web, rest, strokes), is_written(found, rest, strokes))

    def test_a_web_of_one_rest(self):
        web = Web(3, ())
        self.assertEqual(writing(web, (0, 1, 2)), ())
        self.assertIs(is_writing(web, (0, 1, 2), ()), True)
        self.assertIs(is_writing(LATCH, (0,), ()), False)

    def test_new_lists(self):
        first = sure_strokes(row(4), (0, 3))
        wanted = list(first)
        self.assertIsNot(sure_strokes(row(4), (0, 3)), first)
        first.clear()
        self.assertEqual(sure_strokes(row(4), (0, 3)), wanted)
        self.assertEqual(wanted, [((), (1, 2)), ((0,), (2,)), ((0, 3), ()), ((3,), (1,))])


class MoreParts(Raising, unittest.TestCase):
    def test_sure_strokes_of_eight_parts(self):
        """By the sixth fact; that fact is tested for itself."""
        for web in [web for web in small_webs() if web.size in (6, 7)][::3] + [ring(8), random_web(8, 3, 2)]:
            strokes = all_strokes(web.size)
            sure = [(sure_stroke(web, stroke), stroke) for stroke in strokes]
            for rest in rests(web)[::2]:
                held = [stroke for end, stroke in sure if end == rest]
                fewest = min(len(up + down) for up, down in held)
                self.assertEqual(fewest_held(web, rest), fewest)
                self.assertEqual(sure_strokes(web, rest), [stroke for stroke in held if len(sum(stroke, ())) == fewest])

    def test_known(self):
        for web in (Web(8, ()), Web(8, ((0, 1), (2, 3), (4, 5), (6, 7))), full(8), copied(LATCH, 4)):
            self.assertEqual(fewest_held(web, rest_at(web, 0)), 4 if len(web.ties) == 4 else 1)
        self.assertEqual(len(sure_strokes(Web(8, ()), tuple(range(8)))), 16)
        self.assertEqual(sure_strokes(full(8), (5,)), [((5,), ())])

    def test_writings_of_more_parts(self):
        for web in (full(12), beside(full(12), Web(12, ())), copied(copied(row(5), 6), 6), joined(full(4), Web(24, ())),
                    Web(24, ((0, 1), (2, 3), (4, 5))), beside(full(3), full(4)), copied(ring(5), 6)):
            for rest in rests(web):
                strokes = writing(web, rest)
                self.assertIs(is_writing(web, rest, strokes), True)
                self.assertTrue(all(len(up + down) == 1 for up, down in strokes))
                self.assertIs(is_writing(web, rest, tuple(((part,), ()) for part in rest)), True)
                for at in range(len(strokes)):
                    self.assertIs(is_writing(web, rest, strokes[:at] + strokes[at + 1:]), False)
        self.assertEqual(len(writing(Web(24, ((0, 1), (2, 3), (4, 5))), tuple(range(0, 6, 2)) + tuple(range(6, 24)))), 3)
        self.assertEqual(len(writing(copied(copied(row(5), 6), 6), tuple(range(36)) + tuple(range(72, 108))
                                     + tuple(range(144, 180)))), len(writing(row(5), (0, 2, 4))))

    def test_long_writings(self):
        strokes = (((0,), ()), ((1,), ())) * 700
        self.assertIs(is_writing(LATCH, (1,), strokes), True)
        self.assertIs(is_writing(LATCH, (0,), strokes), False)


class Wrong(Raising, unittest.TestCase):
    def test_no_rest(self):
        for web in PROBES + (ring(9), full(24), Web(12, ((0, 1), (2, 3), (4, 5), (6, 7)))):
            for function in (fewest_held, sure_strokes, writing):
                self.raises_for_all(NoRest, function, (web,), no_rests(web))
            self.raises_for_all(NoRest, is_writing, (web,), no_rests(web), ((),))
            self.raises_for_all(NoRest, is_writing, (web,), no_rests(web), (None,))

    def test_too_many_parts(self):
        for function in (fewest_held, sure_strokes):
            for web in (row(9), Web(9, ()), full(24), copied(row(4), 6)):
                self.assertEqual(self.raises(TooMany, function, web, rest_at(web, 0)).most, 8)

    def test_too_many_rests(self):
        fours = beside(full(4), full(3))
        self.assertEqual(many_rests(fours), 12)
        self.assertEqual(len(writing(fours, (1, 5))), 2)
        for web in (full(13), beside(full(2), full(7)), Web(24, tuple((k, k + 1) for k in range(0, 24, 2))), row(24)):
            self.assertGreater(many_rests(web), 12)
            self.assertEqual(self.raises(TooMany, writing, web, rest_at(web, 0)).most, 12)
            for thing in ((), None, (((0,), ()),)):
                self.assertEqual(self.raises(TooMany, is_writing, web, rest_at(web, 0), thing).most, 12)

    def test_what_is_no_writing(self):
        for web in PROBES:
            rest = rests(web)[0]
            strokes = tuple(((part,), ()) for part in rest)
            self.assertIs(is_writing(web, rest, strokes), True)
            for thing in things() + [list(strokes), strokes[0], (strokes,), ((0,), ())]:
                self.assertIs(is_writing(web, rest, thing), False)
            for thing in no_strokes(web.size) + [((0, 1), ()), ((), (0, 1)), ((0,), (1,)), ((1,), (0,))]:
                self.assertIs(is_writing(web, rest, (thing,) + strokes), False)
                self.assertIs(is_writing(web, rest, strokes[:-1] + (thing,)), False)


if __name__ == "__main__":
    unittest.main()
