"""1.3: pieces, twins, renaming."""

import unittest
from itertools import permutations

from silencers.errors import TooMany
from silencers.shapes import pieces, renaming, twins
from silencers.webs import Web, beside, copied, full, joined, renamed, ring, row, tie, untie
from things import Raising, all_webs, big_webs, near, random_web, small_webs, webs_of_24


def plain_pieces(web):
    groups = [{part} for part in range(web.size)]
    for pair in web.ties:
        meeting = [group for group in groups if group & set(pair)]
        groups = [group for group in groups if not group & set(pair)] + [set().union(*meeting)]
    return sorted(tuple(sorted(group)) for group in groups)


def plain_twins(web):
    tied = near(web)
    lots = {tuple(b for b in tied if tied[a] == tied[b]) for a in tied}
    return sorted(lot for lot in lots if len(lot) > 1)


def plain_renaming(one, other):
    if one.size == other.size:
        for names in permutations(range(one.size)):
            if renamed(one, names) == other:
                return names
    return None


class Lists(unittest.TestCase):
    def check(self, function, plain, web):
        ties = web.ties
        found = function(web)
        self.assertIsInstance(found, list)
        self.assertTrue(all(isinstance(lot, tuple) for lot in found))
        self.assertEqual(found, plain(web))
        found.append("spoiled")
        self.assertEqual(function(web), plain(web))
        self.assertEqual(web.ties, ties)

    def test_pieces(self):
        for web in small_webs() + webs_of_24() + big_webs():
            self.check(pieces, plain_pieces, web)

    def test_twins(self):
        for web in small_webs() + webs_of_24() + big_webs():
            self.check(twins, plain_twins, web)

    def test_edges(self):
        self.assertEqual(pieces(Web(1, ())), [(0,)])
        self.assertEqual(pieces(Web(3, ())), [(0,), (1,), (2,)])
        self.assertEqual(pieces(full(3)), [(0, 1, 2)])
        self.assertEqual(pieces(Web(5, ((0, 3), (1, 4)))), [(0, 3), (1, 4), (2,)])
        self.assertEqual(twins(Web(1, ())), [])
        self.assertEqual(twins(Web(3, ())), [(0, 1, 2)])
        self.assertEqual(twins(full(3)), [])
        self.assertEqual(twins(ring(4)), [(0, 2), (1, 3)])
        self.assertEqual(twins(row(3)), [(0, 2)])
        self.assertEqual(len(pieces(beside(row(24), row(24)))), 2)
        self.assertEqual(twins(copied(row(24), 2))[1], (2, 3))


class Renaming(Raising, unittest.TestCase):
    def test_all_small_webs(self):
        webs = [web for size in range(1, 5) for web in all_webs(size)][::2]
        for one in webs:
            for other in webs:
                self.assertEqual(renaming(one, other), plain_renaming(one, other))

    def test_seven_parts(self):
        for seed in range(4):
            one = random_web(7, 4, seed)
            for other in (renamed(one, (3, 1, 6, 0, 2, 5, 4)), tie(one, 0, 6), untie(one, 2, 3), row(7), row(6)):
                self.assertEqual(renaming(one, other), plain_renaming(one, other))

    def test_a_tuple_or_none(self):
        self.assertEqual(renaming(Web(1, ()), Web(1, ())), (0,))
        self.assertIsInstance(renaming(row(3), row(3)), tuple)
        self.assertEqual(renaming(row(3), row(3)), (0, 1, 2))
        self.assertEqual(renaming(row(3), Web(3, ((0, 1), (0, 2)))), (1, 0, 2))
        self.assertIsNone(renaming(row(3), row(2)))
        self.assertIsNone(renaming(row(4), Web(4, ((0, 1), (0, 2), (0, 3)))))

    def test_too_many(self):
        for one, other in ((row(8), row(2)), (row(2), row(8)), (row(8), row(8)), (full(24), row(7)),
                           (big_webs()[0], row(1)), (row(7), joined(full(24), full(24)))):
            self.assertEqual(self.raises(TooMany, renaming, one, other).most, 7)


if __name__ == "__main__":
    unittest.main()
