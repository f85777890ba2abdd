"""6.1, 6.2: strokes, their courses and ends, and the sixth fact."""

import unittest
from itertools import product
from random import Random

from silencers.calls import is_rest
from silencers.errors import NoCourse, NoRest, NoStroke, TooMany
from silencers.rests import many_rests, rest_at, rests
from silencers.strokes import course_end, course_to, is_two_courses, stroke_ends, sure_stroke, two_courses
from silencers.webs import Web, beside, copied, full, joined, ring, row
from things import (
    Raising, Strokes, all_strokes, all_webs, big_webs, is_free, near, no_lots, no_rows, no_strokes, plain_behind,
    plain_rests, random_web, things, webs_of_24,
)

LATCH = Web(2, ((0, 1),))
FOUR = row(4)
FEW = [web for size in (1, 2, 3) for web in all_webs(size)] + all_webs(4)[::4]
FIVES = [row(5), ring(5), random_web(5, 3, 2), random_web(5, 6, 3), Web(5, ((0, 1), (2, 3)))]
TWOS = Web(22, tuple((k, k + 1) for k in range(0, 22, 2)))
PROBES = (FOUR, full(3), Web(2, ()), copied(row(4), 6))


def some_strokes(web, luck, many):
    found = []
    while len(found) < many:
        signs = [luck.choice("--------+.") if web.size > 9 else luck.choice("-+.") for _ in range(web.size)]
        up = tuple(part for part in range(web.size) if signs[part] == "+")
        down = tuple(part for part in range(web.size) if signs[part] == ".")
        found += [(up, down)] if up + down else []
    return found


def plain_end(web, rest, stroke, course):
    """The rest that a course leads to, None if it is none, by the words of 6.1."""
    up, down = stroke
    first, second = course
    held = up + down
    if set(first) & set(held):
        return None
    stand = plain_behind(web, tuple(sorted(set(rest) - set(down) | set(up))), first)
    tied = near(web)
    if any((part in stand) != (not tied[part] & set(stand)) for part in range(web.size) if part not in held):
        return None
    end = plain_behind(web, stand, second)
    return end if is_rest(web, end) else None


class SmallWebs(Raising, unittest.TestCase):
    @classmethod
    def setUpClass(cls):
        cls.found = [Strokes(web) for web in FEW + FIVES]

    def cases(self):
        for found in self.found:
            for stroke in all_strokes(found.web.size)[::1 if found.web.size < 5 else 7]:
                yield found, found.web, stroke

    def test_examples(self):
        self.assertEqual((sure_stroke(LATCH, ((0,), ())), sure_stroke(FOUR, ((1,), ())), sure_stroke(FOUR, ((), (1,)))),
                         ((0,), (1, 3), None))

    def test_stroke_ends(self):
        for found, web, stroke in self.cases():
            for rest in found.rests:
                ends = stroke_ends(web, rest, stroke)
                self.assertIsInstance(ends, list)
                self.assertEqual(ends, found.of(rest, stroke))

    def test_course_to(self):
        for found, web, stroke in self.cases():
            for rest in found.rests:
                for end in found.rests:
                    course = course_to(web, rest, stroke, end)
                    self.assertEqual(course is not None, end in found.of(rest, stroke))
                    if course is not None:
                        self.check_course(web, rest, stroke, course, end)

    def check_course(self, web, rest, stroke, course, end):
        self.assertIsInstance(course, tuple)
        self.assertEqual(plain_end(web, rest, stroke, course), end)
        self.assertEqual(course_end(web, rest, stroke, course), end)

    def test_sure_stroke(self):
        for found, web, stroke in self.cases():
            ends = found.of_all(found.rests, stroke)
            self.assertEqual(sure_stroke(web, stroke), ends[0] if len(ends) == 1 else None)

    def test_the_sixth_fact(self):
        for found, web, stroke in self.cases():
            up, down = stroke
            tied = near(web)
            left = [part for part in range(web.size) if part not in up + down and not tied[part] & set(up)]
            late = [part for part in down if not tied[part] & set(up) and not tied[part] & set(left)]
            right = is_free(web, up) and is_free(web, left) and is_free(web, late)
            self.assertEqual(sure_stroke(web, stroke) is not None, right)

    def test_two_courses(self):
        for found, web, stroke in self.cases():
            two = two_courses(web, stroke)
            self.assertEqual(two is None, len(found.of_all(found.rests, stroke)) == 1)
            if two is not None:
                self.assertIsInstance(two, tuple)
                self.assertIs(is_two_courses(web, stroke, two), True)
                one, other = plain_end(web, two[0], stroke, two[1]), plain_end(web, two[2], stroke, two[3])
                self.assertTrue(two[0] in found.rests and two[2] in found.rests)
                self.assertTrue(one is not None and other is not None and one != other)

    def test_course_end_of_all_short_courses(self):
        for web in (LATCH, row(3), full(3), Web(3, ((0, 1),)), Web(2, ())):
            rows = [calls for many in range(3) for calls in product(range(web.size), repeat=many)]
            for stroke in all_strokes(web.size):
                for rest in plain_rests(web):
                    for course in product(rows, rows):
                        end = plain_end(web, rest, stroke, course)
                        if end is None:
                            self.raises(NoCourse, course_end, web, rest, stroke, course)
                        else:
                            self.assertEqual(course_end(web, rest, stroke, course), end)
                            self.assertEqual(course_end(web, rest, stroke, (list(course[0]), list(course[1]))), end)

    def test_is_two_courses_of_short_courses(self):
        for web in (LATCH, row(3), Web(3, ((0, 1),))):
            rows = [calls for many in range(3) for calls in product(range(web.size), repeat=many)]
            ways = [(rest, course) for rest in plain_rests(web) for course in product(rows[::2], rows[::3])]
            for stroke in all_strokes(web.size)[::2]:
                ends = [plain_end(web, rest, stroke, course) for rest, course in ways]
                for at in range(0, len(ways), 3):
                    for to in range(1, len(ways), 4):
                        right = ends[at] is not None and ends[to] is not None and ends[at] != ends[to]
                        self.assertIs(is_two_courses(web, stroke, ways[at] + ways[to]), right)

    def test_new_lists(self):
        first = stroke_ends(FOUR, (0, 2), ((), (1,)))
        wanted = list(first)
        self.assertIsNot(stroke_ends(FOUR, (0, 2), ((), (1,))), first)
        first.clear()
        self.assertEqual(stroke_ends(FOUR, (0, 2), ((), (1,))), wanted)
        course = ([2], [0])
        course_end(FOUR, (0, 2), ((1,), ()), ([0, 2, 3], []))
        self.assertEqual((course, FOUR), (([2], [0]), row(4)))


class MoreParts(Raising, unittest.TestCase):
    """Webs of 24 parts, and returned ones of hundreds."""

    def check(self, web, stroke):
        sure, two = sure_stroke(web, stroke), two_courses(web, stroke)
        self.assertEqual(sure is None, two is not None)
        if two is not None:
            self.assertIs(is_two_courses(web, stroke, two), True)
            self.assertNotEqual(course_end(web, two[0], stroke, two[1]), course_end(web, two[2], stroke, two[3]))
        if many_rests(web) > 2000:
            rest = rest_at(web, 5)
            self.assertEqual(self.raises(TooMany, stroke_ends, web, rest, stroke).most, 2000)
            self.assertEqual(self.raises(TooMany, course_to, web, rest, stroke, rest).most, 2000)
            return
        for number in {0, many_rests(web) // 2}:
            rest = rest_at(web, number)
            ends = stroke_ends(web, rest, stroke)
            self.assertTrue(ends)
            if sure is not None:
                self.assertEqual(ends, [sure])
            for end in ends[::1 + len(ends) // 3]:
                self.assertEqual(course_end(web, rest, stroke, course_to(web, rest, stroke, end)), end)
            for end in rests(web)[::1 + many_rests(web) // 9]:
                self.assertEqual(course_to(web, rest, stroke, end) is not None, end in ends)

    def test_24_parts(self):
        luck = Random(3)
        for web in webs_of_24():
            for stroke in some_strokes(web, luck, 6) + [(tuple(range(24)), ()), ((), tuple(range(24)))]:
                self.check(web, stroke)

    def test_big_webs(self):
        luck = Random(4)
        for web in big_webs():
            for stroke in some_strokes(web, luck, 2) + [((0,), ()), ((), (web.size - 1,))]:
                self.check(web, stroke)

    def test_rests_held_up_are_sure(self):
        for web in webs_of_24() + big_webs():
            for number in {0, many_rests(web) // 2, many_rests(web) - 1}:
                rest = rest_at(web, number)
                self.assertEqual(sure_stroke(web, (rest, ())), rest)
                outside = tuple(part for part in range(web.size) if part not in rest)
                self.assertTrue(not outside or sure_stroke(web, ((), outside)) == rest)
                self.assertIsNone(two_courses(web, (rest, ())))


class Wrong(Raising, unittest.TestCase):
    def test_no_rest(self):
        for web in PROBES:
            rest = rests(web)[0]
            wrong = no_lots(web.size) + [thing for thing in ((), (0, 1), (1,), [0, 2], (0,)) if not is_rest(web, thing)]
            self.raises_for_all(NoRest, course_end, (web,), wrong, (((0,), ()), ((), ())))
            self.raises_for_all(NoRest, course_end, (web,), wrong, (None, None))
            self.raises_for_all(NoRest, stroke_ends, (web,), wrong, (((0,), ()),))
            self.raises_for_all(NoRest, stroke_ends, (web,), wrong, (None,))
            self.raises_for_all(NoRest, course_to, (web,), wrong, (((0,), ()), rest))
            self.raises_for_all(NoRest, course_to, (web,), wrong, (None, None))
            self.raises_for_all(NoRest, course_to, (web, rest, ((0,), ())), wrong)
            self.raises_for_all(NoRest, course_to, (web, rest, None), wrong)

    def test_no_stroke(self):
        for web in PROBES + (TWOS,):
            rest = rest_at(web, 0)
            wrong = no_strokes(web.size)
            self.raises_for_all(NoStroke, course_end, (web, rest), wrong, (((), ()),))
            self.raises_for_all(NoStroke, course_end, (web, rest), wrong, (None,))
            self.raises_for_all(NoStroke, stroke_ends, (web, rest), wrong)
            self.raises_for_all(NoStroke, course_to, (web, rest), wrong, (rest,))
            self.raises_for_all(NoStroke, sure_stroke, (web,), wrong)
            self.raises_for_all(NoStroke, two_courses, (web,), wrong)
            self.raises_for_all(NoStroke, is_two_courses, (web,), wrong, (None,))

    def test_no_course(self):
        for web in PROBES:
            rest = rests(web)[0]
            stroke = (rest, ())
            self.assertEqual(course_end(web, rest, stroke, ((), ())), rest)
            self.assertEqual(course_end(web, rest, stroke, ([], [])), rest)
            wrong = things() + [[(), ()], (), ((),), ((), (), ()), [], (rest, ()), ((rest[0],), ())]
            self.raises_for_all(NoCourse, course_end, (web, rest, stroke), wrong)
            pairs = [(thing, ()) for thing in no_rows(web.size)] + [((), thing) for thing in no_rows(web.size)]
            self.raises_for_all(NoCourse, course_end, (web, rest, stroke), pairs)

    def test_rows_of_1000(self):
        stroke = ((0,), ())
        self.assertEqual(course_end(FOUR, (0, 2), stroke, ((1, 2) * 500, (3, 3) * 500)), (0, 2))
        self.raises(NoCourse, course_end, FOUR, (0, 2), stroke, ((1, 2) * 500 + (3,), ()))
        self.raises(NoCourse, course_end, FOUR, (0, 2), stroke, ((), (1, 2) * 500 + (3,)))

    def test_too_many(self):
        most = beside(beside(beside(beside(full(5), full(5)), full(5)), full(4)), beside(full(2), full(2)))
        more = beside(beside(full(3), full(23)), joined(full(24), full(5)))
        self.assertEqual((many_rests(most), many_rests(more)), (2000, 2001))
        rest = rest_at(most, 7)
        self.assertEqual(len(stroke_ends(most, rest, ((), (0,)))), 4 if 0 in rest else 1)
        self.assertEqual(course_to(most, rest, (rest, ()), rest), ((), ()))
        for web in (more, TWOS):
            rest = rest_at(web, 7)
            self.assertEqual(self.raises(TooMany, stroke_ends, web, rest, ((0,), ())).most, 2000)
            self.assertEqual(self.raises(TooMany, course_to, web, rest, ((0,), ()), rest).most, 2000)
            # What is not asked for its rests has no such bound.
            self.assertEqual(course_end(web, rest, (rest, ()), ((), ())), rest)
            self.assertEqual(sure_stroke(web, (rest, ())), rest)
            self.assertIs(is_two_courses(web, ((0,), ()), two_courses(web, ((0,), ()))), True)

    def test_what_is_no_two_courses(self):
        stroke = ((), (1,))
        two = two_courses(FOUR, stroke)
        self.assertIs(is_two_courses(FOUR, stroke, two), True)
        self.assertIs(is_two_courses(FOUR, stroke, two[2:] + two[:2]), True)
        wrong = things() + [(), two[:2], two[:3], two + ((),), list(two), two[:2] + two[:2], (two[:2], two[2:])]
        for thing in wrong:
            self.assertIs(is_two_courses(FOUR, stroke, thing), False)
        for thing in things() + [(), (0, 1), [0, 2], (), (0,), 0]:
            self.assertIs(is_two_courses(FOUR, stroke, (thing,) + two[1:]), False)
            self.assertIs(is_two_courses(FOUR, stroke, two[:2] + (thing,) + two[3:]), False)
            self.assertIs(is_two_courses(FOUR, stroke, two[:1] + (thing,) + two[2:]), False)
            self.assertIs(is_two_courses(FOUR, stroke, two[:3] + (thing,)), False)
        for thing in no_rows(4):
            self.assertIs(is_two_courses(FOUR, stroke, two[:3] + ((thing, two[3][1]),)), False)
            self.assertIs(is_two_courses(FOUR, stroke, two[:1] + ((two[1][0], thing),) + two[2:]), False)


if __name__ == "__main__":
    unittest.main()
