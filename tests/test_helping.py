"""4.5 and 8.4: what hands must put to a stand, the thirteenth fact, and where falling parts lead."""

import unittest
from itertools import combinations
from random import Random

from silencers.calls import is_rest
from silencers.coming import can_come, lumps
from silencers.errors import NoNumber, NoRest, NoStand, TooMany
from silencers.healing import heals
from silencers.helping import drift, fewest_puts, puts
from silencers.rests import many_rests, rest_at, rests
from silencers.webs import Web, beside, copied, full, ring, row
from things import (
    Raising, all_lots, all_webs, big_webs, near, no_lots, no_numbers, plain_ends, plain_rests, random_web, small_webs,
    webs_of_24,
)

LATCH = Web(2, ((0, 1),))
FEW = [web for web in small_webs() if web.size < 6]
PROBES = (row(4), full(3), Web(1, ()), copied(row(4), 6))


def with_parts(stand, lot):
    return tuple(sorted(set(stand) | set(lot)))


def no_rests(web):
    wrong = [(), (0, 1), (1,), (0, 1, 2, 3), [0, 2], [0], (2, 0)]
    return no_lots(web.size) + [thing for thing in wrong if not is_rest(web, thing)]


def sides(seed, tenths):
    """A web of a rest of twelve parts, and of twelve parts that are tied to it alone."""
    luck = Random(seed)
    ties = [(a, b) for a in range(12) for b in range(12, 24) if luck.randrange(10) < tenths or b == a + 12]
    return Web(24, tuple(ties))


class Puts(Raising, unittest.TestCase):
    def plain_puts(self, web, stand, rest):
        """The least number of parts of the rest that do it, all lots of them gone through."""
        for many in range(len(rest) + 1):
            for lot in combinations(rest, many):
                if can_come(web, with_parts(stand, lot), rest):
                    return many
        return None

    def check(self, web, stand, rest):
        found = puts(web, stand, rest)
        self.assertIsInstance(found, tuple)
        self.assertEqual(found, tuple(sorted(set(found) & set(rest) - set(stand))))
        self.assertIs(can_come(web, with_parts(stand, found), rest), True)
        self.assertEqual(fewest_puts(web, stand, rest), len(found))
        return len(found)

    def test_small_webs(self):
        for web in FEW:
            for stand in all_lots(web.size):
                for rest in plain_rests(web):
                    many = self.check(web, stand, rest)
                    self.assertEqual(many, self.plain_puts(web, stand, rest))
                    self.assertEqual(many == 0, can_come(web, stand, rest))

    def test_more_parts(self):
        for web in [web for web in small_webs() if web.size > 5]:
            for stand in all_lots(web.size)[::9]:
                for rest in rests(web):
                    self.assertEqual(self.check(web, stand, rest), self.plain_puts(web, stand, rest))

    def test_what_is_put_by_all_rows_of_calls(self):
        for web in [web for size in (2, 3, 4) for web in all_webs(size)][::5]:
            for stand in all_lots(web.size):
                for rest in plain_rests(web):
                    put = puts(web, stand, rest)
                    self.assertIn(rest, plain_ends(web, with_parts(stand, put)))
                    for lot in combinations(rest, max(0, len(put) - 1)):
                        self.assertEqual(rest in plain_ends(web, with_parts(stand, lot)), not put)

    def test_the_thirteenth_fact(self):
        for web in FEW[::2]:
            tied = near(web)
            for stand in all_lots(web.size):
                for rest in plain_rests(web):
                    missed = [lump for lump in lumps(web, stand) if not set(lump) & set(rest)]
                    for lot in all_lots(web.size):
                        if set(lot) <= set(rest):
                            tied_to = [lump for lump in missed if any(tied[part] & set(lump) for part in lot)]
                            done = can_come(web, with_parts(stand, lot), rest)
                            self.assertEqual(done, len(tied_to) == len(missed))

    def test_24_parts(self):
        for seed in range(6):
            for tenths in (1, 2, 3, 5):
                web = sides(seed, tenths)
                stand, rest = tuple(range(12)), tuple(range(12, 24))
                self.assertEqual(self.check(web, stand, rest), self.plain_puts(web, stand, rest))
                rest = tuple(range(12))
                self.assertEqual(self.check(web, tuple(range(12, 24)), rest),
                                 self.plain_puts(web, tuple(range(12, 24)), rest))

    def test_known(self):
        self.assertEqual(puts(ring(6), (), (0, 2, 4)), ())
        self.assertEqual(fewest_puts(ring(6), (1, 3, 5), (0, 2, 4)), 2)
        self.assertEqual(fewest_puts(ring(24), tuple(range(0, 24, 2)), tuple(range(1, 24, 2))), 6)
        self.assertEqual(puts(full(24), (0, 1), (5,)), (5,))
        self.assertEqual(puts(LATCH, (0, 1), (0,)), ())

    def test_webs_of_24_and_big_webs(self):
        luck = Random(9)
        for web in webs_of_24() + big_webs():
            for number in {0, many_rests(web) // 2}:
                rest = rest_at(web, number)
                for tenth in (1, 4, 10):
                    stand = tuple(part for part in range(web.size) if luck.randrange(10) < tenth)
                    many = self.check(web, stand, rest)
                    missed = [lump for lump in lumps(web, stand) if not set(lump) & set(rest)]
                    self.assertLessEqual(many, len(missed))
                    self.assertEqual(many == 0, not missed)

    def test_side_by_side(self):
        one, other = sides(1, 2), sides(2, 2)
        stand, rest = tuple(range(12)), tuple(range(12, 24))
        both = beside(one, other)
        many = fewest_puts(one, stand, rest) + fewest_puts(other, stand, rest)
        self.assertEqual(fewest_puts(both, stand + tuple(range(24, 36)), rest + tuple(range(36, 48))), many)
        copies = copied(both, 6)
        self.assertEqual(fewest_puts(copies, tuple(range(72)) + tuple(range(144, 216)),
                                     tuple(range(72, 144)) + tuple(range(216, 288))), many)

    def test_no_stand(self):
        for web in PROBES:
            for function in (fewest_puts, puts):
                self.raises_for_all(NoStand, function, (web,), no_lots(web.size), (rests(web)[0],))
                self.raises_for_all(NoStand, function, (web,), no_lots(web.size), (None,))

    def test_no_rest(self):
        for web in PROBES:
            for function in (fewest_puts, puts):
                self.raises_for_all(NoRest, function, (web, (0,)), no_rests(web))


class Drift(Raising, unittest.TestCase):
    def plain_drift(self, web, rest, many):
        found, ends = [rest], {}
        for now in found:
            for few in range(min(many, len(now)) + 1):
                for fallen in combinations(now, few):
                    stand = tuple(part for part in now if part not in fallen)
                    if stand not in ends:
                        ends[stand] = plain_ends(web, stand)
                    found += [end for end in ends[stand] if end not in found]
        return sorted(found)

    def test_small_webs(self):
        for web in FEW + [row(6), ring(6), copied(LATCH, 3)]:
            for rest in plain_rests(web)[::1 if web.size < 5 else 2]:
                for many in range(4):
                    found = drift(web, rest, many)
                    self.assertIsInstance(found, list)
                    self.assertEqual(found, self.plain_drift(web, rest, many))
                self.assertEqual(drift(web, rest, 10 ** 59), plain_rests(web))

    def test_ten_parts(self):
        for web in (ring(10), row(10), full(10), copied(ring(5), 2), random_web(10, 3, 1), Web(10, ())):
            for rest in rests(web):
                for many in range(6):
                    found = drift(web, rest, many)
                    self.assertEqual(found, sorted(found))
                    self.assertEqual(found == [rest], heals(web, rest, many))
                    self.assertTrue(set(drift(web, found[0], many)) <= set(found) if rest == found[0] else True)
                    if many:
                        self.assertTrue(set(drift(web, rest, many - 1)) <= set(found))
                self.assertEqual(drift(web, rest, 10), rests(web))

    def test_known(self):
        self.assertEqual(drift(ring(6), (0, 3), 1), [(0, 2, 4), (0, 3), (1, 3, 5)])
        self.assertEqual(drift(ring(6), (0, 2, 4), 1), [(0, 2, 4)])
        self.assertEqual(drift(LATCH, (0,), 0), [(0,)])
        self.assertEqual(drift(LATCH, (0,), 1), [(0,), (1,)])

    def test_new_lists(self):
        first = drift(LATCH, (0,), 1)
        self.assertIsNot(drift(LATCH, (0,), 1), first)
        first.clear()
        self.assertEqual(drift(LATCH, (0,), 1), [(0,), (1,)])

    def test_errors(self):
        for web in PROBES + (row(11),):
            rest = rests(web)[0]
            self.raises_for_all(NoRest, drift, (web,), no_rests(web), (1,))
            self.raises_for_all(NoRest, drift, (web,), no_rests(web), (None,))
            self.raises_for_all(NoNumber, drift, (web, rest), no_numbers() + [-1, -2, -(10 ** 59)])
        for web in (row(11), Web(11, ()), full(24), copied(row(4), 6)):
            for many in (0, 1, 10 ** 59):
                self.assertEqual(self.raises(TooMany, drift, web, rest_at(web, 0), many).most, 10)


if __name__ == "__main__":
    unittest.main()
