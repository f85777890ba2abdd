"""4.4: the chances of rests, and the mean number of calls, if each part is called next alike likely."""

import unittest
from fractions import Fraction
from math import gcd

from silencers.chances import end_chances, mean_calls
from silencers.coming import ends
from silencers.errors import NoStand, TooMany
from silencers.webs import Web, copied, full, ring, row
from things import Raising, all_lots, no_lots, plain_called, plain_rests, random_web, small_webs

FEW = [web for web in small_webs() if web.size < 6]
FOUR = row(4)


def worth(pair):
    return Fraction(pair[0], pair[1])


class Chances(unittest.TestCase):
    def check_fraction(self, pair):
        self.assertIsInstance(pair, tuple)
        top, bottom = pair
        self.assertTrue(type(top) is int and type(bottom) is int)
        self.assertGreater(bottom, 0)
        self.assertEqual(gcd(top, bottom), 1)

    def check_web(self, web):
        """Each stand's chances are the mean of those of the stands behind one call of each part; so are the calls."""
        wanted = plain_rests(web)
        chances, means = {}, {}
        for stand in all_lots(web.size):
            found, mean = end_chances(web, stand), mean_calls(web, stand)
            self.assertIsInstance(found, dict)
            for pair in list(found.values()) + [mean]:
                self.check_fraction(pair)
            chances[stand] = {rest: worth(pair) for rest, pair in found.items()}
            means[stand] = worth(mean)
        for stand in all_lots(web.size):
            behind = [plain_called(web, stand, part) for part in range(web.size)]
            if stand in wanted:
                self.assertEqual((chances[stand], means[stand]), ({stand: 1}, 0))
                continue
            self.assertEqual(means[stand], 1 + sum(means[other] for other in behind) / web.size)
            for rest in wanted:
                mean = sum(chances[other].get(rest, 0) for other in behind) / web.size
                self.assertEqual(chances[stand].get(rest, 0), mean)

    def test_small_webs(self):
        for web in FEW:
            self.check_web(web)

    def test_more_parts(self):
        for web in (row(6), ring(7), random_web(7, 3, 4), full(6)):
            self.check_web(web)

    def test_just_what_can_come(self):
        for web in FEW:
            for stand in all_lots(web.size):
                found = end_chances(web, stand)
                self.assertEqual(sorted(found), ends(web, stand))
                self.assertEqual(sum(worth(pair) for pair in found.values()), 1)
                self.assertTrue(all(pair[0] > 0 for pair in found.values()))

    def test_known(self):
        self.assertEqual(end_chances(Web(1, ()), ()), {(0,): (1, 1)})
        self.assertEqual(mean_calls(Web(1, ()), ()), (1, 1))
        self.assertEqual(mean_calls(Web(1, ()), (0,)), (0, 1))
        self.assertEqual(end_chances(FOUR, ()), {(0, 2): (3, 8), (0, 3): (1, 4), (1, 3): (3, 8)})
        self.assertEqual(end_chances(full(3), (0, 1)), {(0,): (1, 2), (1,): (1, 2)})
        self.assertEqual(mean_calls(full(3), (0, 1)), (3, 2))

    def test_ten_parts(self):
        # As when ten pictures are collected: 10 calls for the last part, 10 / 2 for the last but one, ..
        wanted = sum(Fraction(10, many) for many in range(1, 11))
        self.assertEqual(worth(mean_calls(Web(10, ()), ())), wanted)
        self.assertEqual(end_chances(full(10), tuple(range(10))), {(part,): (1, 10) for part in range(10)})
        for web in (ring(10), row(10), copied(ring(5), 2), random_web(10, 3, 8)):
            for stand in ((), tuple(range(10)), (0, 1, 4, 5)):
                found = end_chances(web, stand)
                self.assertEqual(sum(worth(pair) for pair in found.values()), 1)
                self.assertEqual(sorted(found), ends(web, stand))
                self.check_fraction(mean_calls(web, stand))
        turned = end_chances(ring(10), ())
        for rest, pair in turned.items():
            self.assertEqual(turned[tuple(sorted((part + 1) % 10 for part in rest))], pair)

    def test_new_dict(self):
        first, wanted = end_chances(FOUR, (0,)), end_chances(FOUR, (0,))
        self.assertIsNot(first, wanted)
        first.clear()
        self.assertEqual(end_chances(FOUR, (0,)), wanted)
        self.assertEqual(FOUR, row(4))


class Wrong(Raising, unittest.TestCase):
    def test_no_stand_ahead_of_too_many(self):
        for function in (end_chances, mean_calls):
            for web in (FOUR, Web(1, ()), ring(10), row(11), copied(FOUR, 6)):
                self.raises_for_all(NoStand, function, (web,), no_lots(web.size))

    def test_too_many(self):
        for function in (end_chances, mean_calls):
            for web in (row(11), Web(11, ()), full(24), copied(FOUR, 6)):
                for stand in ((), (0,), tuple(range(web.size))):
                    self.assertEqual(self.raises(TooMany, function, web, stand).most, 10)


if __name__ == "__main__":
    unittest.main()
