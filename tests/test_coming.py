"""4.1 to 4.3: what can come of a stand, the second and the third fact, and the longest rows."""

import unittest
from functools import lru_cache
from itertools import product

from silencers.calls import is_rest
from silencers.coming import (
    can_come, ends, is_row_to, is_two_ends, longest_row, lumps, many_ends, missed, most_changes, row_to, sure_end,
    two_ends,
)
from silencers.errors import NoRest, NoStand, TooMany
from silencers.rests import many_rests, rest_at, rests
from silencers.webs import Web, beside, copied, full, joined, ring, row
from things import (
    Raising, all_lots, all_webs, big_webs, is_free, near, no_lots, no_rows, plain_behind, plain_called, plain_comes,
    plain_ends, plain_lumps, plain_rests, random_web, small_webs, things, webs_of_24,
)

FEW = [web for web in small_webs() if web.size < 6]
FOUR = row(4)
TWOS = Web(22, tuple((k, k + 1) for k in range(0, 22, 2)))
PROBES = (row(4), Web(1, ()), full(3), copied(row(4), 6), copied(copied(row(4), 6), 6))


def some_stands(web):
    size = web.size
    return [(), tuple(range(size)), tuple(range(0, size, 2)), tuple(range(1, size, 3)), (size - 1,), (0,),
            tuple(part for part in range(size) if part % 7 in (0, 1, 4))]


class Coming(unittest.TestCase):
    """Of all stands and rests of small webs, by going through all rows of calls."""

    def setUp(self):
        self.cases = [(web, stand, plain_comes(web, stand), plain_rests(web))
                      for web in FEW for stand in all_lots(web.size)]

    def test_examples(self):
        self.assertEqual((lumps(FOUR, (0, 1, 3)), missed(FOUR, (0, 1, 3), (0, 2)), row_to(FOUR, (0, 1, 3), (1, 3))),
                         ([(0, 1), (3,)], (3,), (0,)))
        self.assertEqual((sure_end(row(3), (0,)), sure_end(FOUR, ())), ((0, 2), None))

    def test_lumps(self):
        for web, stand, _, _ in self.cases:
            found = lumps(web, stand)
            self.assertIsInstance(found, list)
            self.assertEqual(found, plain_lumps(web, stand))

    def test_can_come(self):
        for web, stand, comes, wanted in self.cases:
            for rest in wanted:
                self.assertIs(can_come(web, stand, rest), rest in comes)

    def test_missed_and_the_second_fact(self):
        for web, stand, comes, wanted in self.cases:
            for rest in wanted:
                without = [lump for lump in plain_lumps(web, stand) if not set(lump) & set(rest)]
                self.assertEqual(missed(web, stand, rest), without[0] if without else None)
                self.assertEqual(rest in comes, not without)

    def test_row_to(self):
        for web, stand, comes, wanted in self.cases:
            for rest in wanted:
                found = row_to(web, stand, rest)
                if rest not in comes:
                    self.assertIsNone(found)
                    continue
                self.assertIsInstance(found, tuple)
                self.assertEqual(plain_behind(web, stand, found), rest)
                self.assertEqual(len(found), comes[rest])
                self.assertEqual(len(found), len(set(stand) ^ set(rest)))
                self.assertIs(is_row_to(web, stand, rest, found), True)

    def test_ends(self):
        for web, stand, comes, wanted in self.cases:
            found = ends(web, stand)
            self.assertIsInstance(found, list)
            self.assertEqual(found, [rest for rest in wanted if rest in comes])
            self.assertEqual(many_ends(web, stand), len(found))

    def test_sure_end_and_two_ends(self):
        for web, stand, comes, wanted in self.cases:
            found = [rest for rest in wanted if rest in comes]
            self.assertEqual(sure_end(web, stand), found[0] if len(found) == 1 else None)
            two = two_ends(web, stand)
            self.assertEqual(two is None, len(found) == 1)
            if two is not None:
                self.check_two_ends(web, stand, two)

    def check_two_ends(self, web, stand, two):
        self.assertIsInstance(two, tuple)
        one, other = [plain_behind(web, stand, calls) for calls in two]
        self.assertNotEqual(one, other)
        self.assertTrue(is_rest(web, one) and is_rest(web, other))
        self.assertIs(is_two_ends(web, stand, two), True)

    def test_the_third_fact(self):
        for web, stand, _, _ in self.cases:
            left = [part for part in range(web.size) if part not in stand and not near(web)[part] & set(stand)]
            self.assertEqual(many_ends(web, stand) == 1, is_free(web, stand) and is_free(web, left))

    def test_new_lists(self):
        for function in (lumps, ends):
            first = function(FOUR, (0, 1))
            wanted = function(FOUR, (0, 1))
            self.assertIsNot(first, wanted)
            first.clear()
            self.assertEqual(function(FOUR, (0, 1)), wanted)
        self.assertEqual(FOUR, row(4))


class MoreParts(Raising, unittest.TestCase):
    """Webs of six to eight parts, of 24, and returned ones of hundreds."""

    def check(self, web, stand):
        pieces = lumps(web, stand)
        self.assertEqual(pieces, plain_lumps(web, stand))
        found = ends(web, stand)
        self.assertEqual(many_ends(web, stand), len(found))
        self.assertEqual(sure_end(web, stand), found[0] if len(found) == 1 else None)
        two = two_ends(web, stand)
        self.assertEqual(two is None, len(found) == 1)
        if two is not None:
            self.assertIs(is_two_ends(web, stand, two), True)
            self.assertTrue({plain_behind(web, stand, calls) for calls in two} <= set(found))

    def test_eight_parts(self):
        for web in small_webs():
            if web.size > 5:
                for stand in all_lots(web.size)[::5]:
                    self.check(web, stand)
                    wanted = [rest for rest in rests(web) if can_come(web, stand, rest)]
                    self.assertEqual(ends(web, stand), wanted)

    def test_six_parts_in_a_plain_way(self):
        for web in [web for web in small_webs() if web.size == 6]:
            for stand in all_lots(6)[::9]:
                self.assertEqual(ends(web, stand), plain_ends(web, stand))

    def test_24_parts(self):
        for web in webs_of_24():
            wanted = rests(web)
            for stand in some_stands(web):
                self.check(web, stand)
                pieces = [set(lump) for lump in lumps(web, stand)]
                comes = [rest for rest in wanted if all(lump & set(rest) for lump in pieces)]
                self.assertEqual(ends(web, stand), comes)
                for rest in wanted[::1 + len(wanted) // 9]:
                    self.check_row(web, stand, rest)

    def check_row(self, web, stand, rest):
        found = row_to(web, stand, rest)
        self.assertIs(can_come(web, stand, rest), found is not None)
        left = missed(web, stand, rest)
        self.assertEqual(found is None, left is not None)
        if found is None:
            self.assertIn(left, lumps(web, stand))
            self.assertFalse(set(left) & set(rest))
        else:
            self.assertEqual(plain_behind(web, stand, found), rest)
            self.assertEqual(len(found), len(set(stand) ^ set(rest)))

    def test_big_webs(self):
        for web in big_webs():
            for stand in some_stands(web)[:3 if web.size > 200 else 7]:
                many = many_ends(web, stand)
                if many <= 2000:
                    self.check(web, stand)
                    self.assertEqual(len(ends(web, stand)), many)
                else:
                    self.assertEqual(self.raises(TooMany, ends, web, stand).most, 2000)
                    self.assertIs(is_two_ends(web, stand, two_ends(web, stand)), True)
                for number in sorted({0, many_rests(web) - 1}):
                    rest = rest_at(web, number)
                    self.check_row(web, rest, rest)
                    if web.size < 200:
                        self.check_row(web, stand, rest)

    def test_beside_one_another(self):
        a, b = random_web(24, 2, 3), ring(24)
        for stand in some_stands(a)[1:]:
            both = stand + tuple(part + 24 for part in stand)
            self.assertEqual(many_ends(beside(a, b), both), many_ends(a, stand) * many_ends(b, stand))
        self.assertEqual(many_ends(joined(a, b), (0, 24)), len([rest for rest in rests(joined(a, b)) if
                                                                 0 in rest or 24 in rest]))

    def test_many_ends_beyond_2000(self):
        web = beside(beside(TWOS, TWOS), TWOS)
        self.assertEqual(many_ends(web, ()), 2 ** 33)
        self.assertEqual(many_ends(web, (0, 22)), 2 ** 31)
        self.assertEqual(many_ends(web, tuple(range(66))), 2 ** 33)

    def test_bound_of_ends(self):
        fives = beside(beside(full(5), full(5)), full(5))
        web = beside(beside(beside(fives, full(4)), full(2)), full(2))
        self.assertEqual(many_rests(web), 2000)
        self.assertEqual(ends(web, ()), rests(web))
        self.assertEqual(len(ends(TWOS, (0,))), 1024)
        self.assertEqual(len(ends(TWOS, (0, 1, 2))), 1024)
        more = beside(beside(full(3), full(23)), joined(full(24), full(5)))
        for big, stand in ((TWOS, ()), (TWOS, (0, 1)), (more, ()), (beside(TWOS, TWOS), tuple(range(22)))):
            self.assertEqual(self.raises(TooMany, ends, big, stand).most, 2000)
        self.assertEqual(many_ends(more, ()), 2001)

    def test_lumps_like_other_parts(self):
        # Part 3 is tied to just the parts of the lump, as what counts its ends is.
        web = Web(5, ((0, 1), (0, 3), (1, 3), (2, 4)))
        self.assertEqual(ends(web, (0, 1)), [(0, 2), (0, 4), (1, 2), (1, 4)])
        self.assertEqual(ends(web, (0, 1, 2)), [(0, 2), (1, 2)])
        self.assertEqual(ends(copied(web, 2), (0, 2)), ends(copied(web, 2), (0, 1, 2, 3)))


class Judged(Raising, unittest.TestCase):
    def test_is_row_to_of_all_short_rows(self):
        for web in [web for web in FEW if web.size == 3] + [row(4), ring(4)]:
            for stand in all_lots(web.size)[::2]:
                behind = {calls: plain_behind(web, stand, calls) for many in range(5)
                          for calls in product(range(web.size), repeat=many)}
                for rest in plain_rests(web):
                    for calls, end in behind.items():
                        self.assertIs(is_row_to(web, stand, rest, calls), end == rest)
                        self.assertIs(is_row_to(web, stand, rest, list(calls)), end == rest)

    def test_is_two_ends_of_all_short_rows(self):
        for web in (row(2), row(3), full(3), Web(3, ())):
            wanted = plain_rests(web)
            rows = [calls for many in range(4) for calls in product(range(web.size), repeat=many)]
            for stand in ((), (0,), (0, 1), tuple(range(web.size))):
                end = {calls: plain_behind(web, stand, calls) for calls in rows}
                for one in rows[::2]:
                    for other in rows[::3]:
                        right = end[one] != end[other] and end[one] in wanted and end[other] in wanted
                        self.assertIs(is_two_ends(web, stand, (one, other)), right)
                        self.assertIs(is_two_ends(web, stand, (list(one), list(other))), right)

    def test_what_is_no_row(self):
        for web in PROBES:
            rest = rests(web)[0]
            for thing in no_rows(web.size):
                self.assertIs(is_row_to(web, (), rest, thing), False)
                self.assertIs(is_two_ends(web, (), thing), False)
                self.assertIs(is_two_ends(web, (), (thing, rest)), False)
                self.assertIs(is_two_ends(web, (), (rest, thing)), False)
                self.assertIs(is_two_ends(web, (), [rest, rest]), False)
                self.assertIs(is_two_ends(web, (), (rest, rest, rest)), False)

    def test_what_is_no_pair(self):
        two = two_ends(FOUR, ())
        for thing in things() + [list(two), two + ((),), two[:1], (), two[0], [list(calls) for calls in two]]:
            self.assertIs(is_two_ends(FOUR, (), thing), False)
        self.assertIs(is_two_ends(FOUR, (), (list(two[0]), two[1])), True)
        self.assertIs(is_two_ends(FOUR, (), two[::-1]), True)
        self.assertIs(is_two_ends(FOUR, (), (two[0], two[0])), False)
        # Behind these rows something would still change.
        self.assertIs(is_two_ends(FOUR, (), ((0,), (1,))), False)
        self.assertIs(is_two_ends(FOUR, (), ((0,), (1, 3))), False)
        self.assertIs(is_two_ends(FOUR, (), ((0, 3), (1,))), False)

    def test_rows_of_1000(self):
        self.assertIs(is_row_to(FOUR, (), (0, 2), (0, 1, 2, 3) * 250), True)
        self.assertIs(is_row_to(FOUR, (), (0, 2), [0, 1, 2, 3] * 250 + [0]), False)
        self.assertIs(is_two_ends(FOUR, (), ([0, 1, 2, 3] * 250, (3, 2, 1, 0) * 250)), True)
        self.assertIs(is_two_ends(FOUR, (), ([0, 1, 2, 3] * 250, (3, 2, 1, 0) * 250 + (0,))), False)

    def test_arguments_stay(self):
        calls = [0, 2]
        is_row_to(FOUR, (), (0, 2), calls)
        is_two_ends(FOUR, (), (calls, calls))
        self.assertEqual((calls, FOUR), ([0, 2], row(4)))


class Longest(Raising, unittest.TestCase):
    def most(self, web, stand):
        """The longest row by going on from each stand in each way."""
        @lru_cache(maxsize=None)
        def most_from(now):
            behind = [plain_called(web, now, part) for part in range(web.size)]
            return max([1 + most_from(other) for other in behind if other != now], default=0)
        return most_from(stand)

    def check(self, web, stand):
        calls = longest_row(web, stand)
        self.assertIsInstance(calls, tuple)
        now = stand
        for part in calls:
            behind = plain_called(web, now, part)
            self.assertNotEqual(behind, now)
            now = behind
        self.assertTrue(is_rest(web, now))
        self.assertEqual(most_changes(web, stand), len(calls))
        self.assertTrue(all(calls.count(part) <= 2 for part in calls))

    def test_small_webs(self):
        for web in FEW:
            for stand in all_lots(web.size):
                self.check(web, stand)
                self.assertEqual(most_changes(web, stand), self.most(web, stand))

    def test_more_parts(self):
        for web in [web for web in small_webs() if web.size in (6, 7, 8)]:
            for stand in all_lots(web.size)[::23]:
                self.check(web, stand)
                self.assertEqual(most_changes(web, stand), self.most(web, stand))

    def test_12_parts(self):
        self.assertEqual(most_changes(Web(12, ()), ()), 12)
        self.assertEqual(most_changes(full(12), tuple(range(12))), 11)
        self.assertEqual(most_changes(full(12), ()), 1)
        self.assertEqual(longest_row(full(12), (3,)), ())
        for web in (row(12), ring(12), random_web(12, 3, 1), copied(row(4), 3)):
            for stand in (tuple(range(12)), (0, 1, 2, 5)):
                self.check(web, stand)
                self.assertEqual(most_changes(web, stand), self.most(web, stand))

    def test_too_many(self):
        for function in (most_changes, longest_row):
            for web in (row(13), Web(13, ()), full(24), copied(row(24), 2)):
                self.assertEqual(self.raises(TooMany, function, web, ()).most, 12)
                self.assertEqual(self.raises(TooMany, function, web, (0, 1)).most, 12)
                self.raises_for_all(NoStand, function, (web,), no_lots(web.size))


class Wrong(Raising, unittest.TestCase):
    def test_no_stand(self):
        for web in PROBES:
            wrong = no_lots(web.size)
            for function in (lumps, ends, many_ends, sure_end, two_ends):
                self.raises_for_all(NoStand, function, (web,), wrong)
            for function in (most_changes, longest_row):
                self.raises_for_all(NoStand, function, (web,), wrong)
            for function in (can_come, row_to, missed):
                self.raises_for_all(NoStand, function, (web,), wrong, (rests(web)[0],))
                self.raises_for_all(NoStand, function, (web,), wrong, (None,))
            self.raises_for_all(NoStand, is_row_to, (web,), wrong, (rests(web)[0], ()))
            self.raises_for_all(NoStand, is_row_to, (web,), wrong, (None, None))
            self.raises_for_all(NoStand, is_two_ends, (web,), wrong, (None,))
        self.raises_for_all(NoStand, ends, (TWOS,), no_lots(22))

    def test_no_rest(self):
        for web in PROBES:
            no_rests = [(), (0, 1), (1,), (0, 1, 2, 3), [0, 2], [0], (2, 0)]
            wrong = no_lots(web.size) + [thing for thing in no_rests if not is_rest(web, thing)]
            for function in (can_come, row_to, missed):
                self.raises_for_all(NoRest, function, (web, ()), wrong)
            self.raises_for_all(NoRest, is_row_to, (web, (0,)), wrong, ((),))
            self.raises_for_all(NoRest, is_row_to, (web, (0,)), wrong, (None,))

    def test_all_small_webs_have_an_end(self):
        for size in range(1, 4):
            for web in all_webs(size):
                self.assertTrue(all(ends(web, stand) for stand in all_lots(size)))


if __name__ == "__main__":
    unittest.main()
