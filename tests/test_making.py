"""5.3 to 5.5: webs that show a list, and lists made of others."""

import unittest
from functools import lru_cache
from itertools import combinations

from silencers.errors import NoLot, NoStands, NotShown, OtherPlaces, TooMany
from silencers.lists import List, can_be_shown, is_showing, lack, shown, within
from silencers.making import (
    bare_web, closed_up, fewest_hidden, listed_both, listed_either, missing, seen_at, side_by_side, web_for,
)
from silencers.webs import Web, full, row
from things import Raising, all_lists, all_lots, all_webs, near, no_lots, plain_shown, random_lists, same_web

LATCH = Web(2, ((0, 1),))
TRIANGLE = List(3, ((0, 1), (0, 2), (1, 2)))
THREE = all_lists(3)
SOME = THREE + random_lists(4, 150) + random_lists(5, 60) + random_lists(12, 20)
# Each two places of different threes, at most 81 lots of one of each three.
THREES = tuple((a, b) for a in range(12) for b in range(a + 1, 12) if a // 3 != b // 3)


def inner_of(one):
    return [inner for inner in one.stands if any(set(inner) < set(outer) for outer in one.stands)]


def plain_missing(one):
    """What closed_up puts to a list, by its words, all lots gone through."""
    together = {pair for stand in one.stands for pair in combinations(stand, 2)}
    lots = [lot for lot in all_lots(one.places) if len(lot) > 1 and all(pair in together for pair in combinations(lot, 2))]
    greatest = [lot for lot in lots if not any(set(lot) < set(other) for other in lots)]
    return sorted(lot for lot in greatest if not any(set(lot) <= set(stand) for stand in one.stands))


def stands_of(size, ties, places):
    """What the rests of a web show at its first places; quick, in bits, and a tuple of bits."""
    tied = [0] * size
    for a, b in ties:
        tied[a] |= 1 << b
        tied[b] |= 1 << a
    found = set()
    for bits in range(1 << size):
        if all(bool(tied[part] & bits) != bool(bits >> part & 1) for part in range(size)):
            found.add(bits & ((1 << places) - 1))
    return tuple(sorted(found))


@lru_cache(maxsize=None)
def shown_with(places, hidden):
    """All that webs with so many hidden parts show."""
    pairs = list(combinations(range(places + hidden), 2))
    return {stands_of(places + hidden, ties, places)
            for many in range(len(pairs) + 1) for ties in combinations(pairs, many)}


def as_bits(one):
    return tuple(sorted(sum(1 << place for place in stand) for stand in one.stands))


class Making(unittest.TestCase):
    def test_examples(self):
        some = List(3, ((0,), (0, 1), (2,)))
        self.assertEqual((can_be_shown(some), within(some), fewest_hidden(some)), (True, (0, 1), 1))
        self.assertEqual(bare_web(List(2, ((0,), (1,)))), LATCH)

    def check_web_for(self, one):
        found = web_for(one)
        if lack(one) is not None:
            self.assertIsNone(found)
            return
        self.assertIsInstance(found, tuple)
        web, showing = found
        same_web(self, web, web.size, web.ties)
        self.assertEqual(shown(web, showing), one)
        self.assertIs(is_showing(web, one, showing), True)
        self.assertLessEqual(web.size - one.places, len(inner_of(one)))
        if web.size < 9:
            self.assertEqual(plain_shown(web, showing), one.stands)

    def test_web_for(self):
        for one in SOME:
            self.check_web_for(one)

    def test_web_for_many_inner_stands(self):
        sixes = List(6, tuple(all_lots(6)))
        self.check_web_for(sixes)
        self.assertGreater(web_for(sixes)[0].size, 24)
        pairs = list(combinations(range(12), 2))[:63]
        self.check_web_for(List(12, tuple(sorted(pairs + [tuple(range(12))]))))
        self.check_web_for(List(1, ((), (0,))))
        self.check_web_for(List(12, (tuple(range(12)),)))

    def test_bare_web_and_the_fifth_fact(self):
        for one in SOME:
            found = bare_web(one)
            self.assertEqual(found is None, lack(one) is not None or bool(inner_of(one)))
            if found is not None:
                same_web(self, found, one.places, found.ties)
                self.assertEqual(shown(found, tuple(range(one.places))), one)

    def test_bare_web_is_the_only_one(self):
        for web in [web for size in range(1, 5) for web in all_webs(size)]:
            self.assertEqual(bare_web(List(web.size, plain_shown(web, tuple(range(web.size))))), web)

    def test_fewest_hidden_of_three_places(self):
        """Of all lists of up to three places, against all webs of up to five parts."""
        for one in THREE:
            if lack(one) is not None or len(inner_of(one)) > 3:
                continue
            wanted = [hidden for hidden in range(3) if as_bits(one) in shown_with(one.places, hidden)]
            if not wanted and one.places < 3:
                wanted = [3] if as_bits(one) in shown_with(one.places, 3) else []
            self.assertEqual(fewest_hidden(one), (wanted + [3])[0])

    def test_fewest_hidden_of_four_places(self):
        """Against all webs of up to six parts."""
        for one in random_lists(4, 500):
            if lack(one) is not None or len(inner_of(one)) > 3:
                continue
            wanted = [hidden for hidden in range(3) if as_bits(one) in shown_with(4, hidden)]
            self.assertEqual(fewest_hidden(one), (wanted + [3])[0])

    def test_fewest_hidden_is_reached_and_not_passed(self):
        for one in THREE:
            if lack(one) is None and len(inner_of(one)) < 4:
                self.assertLessEqual(fewest_hidden(one), len(inner_of(one)))
                self.assertEqual(fewest_hidden(one) == 0, within(one) is None)


class Closing(Raising, unittest.TestCase):
    def test_closed_up(self):
        for one in SOME:
            put = plain_missing(one)
            found = closed_up(one)
            self.assertIsInstance(found, List)
            self.assertEqual(found, List(one.places, tuple(sorted(list(one.stands) + put))))
            self.assertIsInstance(missing(one), list)
            self.assertEqual(missing(one), put)
            if all(any(place in stand for stand in one.stands) for place in range(one.places)):
                self.assertIsNone(lack(found))
            if lack(one) is None:
                self.assertEqual((found, put), (one, []))

    def test_known(self):
        self.assertEqual(closed_up(TRIANGLE), List(3, ((0, 1), (0, 1, 2), (0, 2), (1, 2))))
        self.assertEqual(missing(TRIANGLE), [(0, 1, 2)])
        self.assertEqual(missing(List(4, ((0, 1), (0, 2), (1, 2)))), [(0, 1, 2)])
        self.assertEqual(missing(List(4, ((0, 1), (0, 2), (0, 3), (1, 2), (1, 3), (2, 3)))), [(0, 1, 2, 3)])
        self.assertEqual(missing(List(1, ((),))), [])
        self.assertEqual(closed_up(List(3, ((0,), (1,)))), List(3, ((0,), (1,))))

    def test_too_many(self):
        self.assertEqual(len(THREES), 54)
        self.assertEqual(self.raises(TooMany, closed_up, List(12, THREES)).most, 64)
        self.assertEqual(len(missing(List(12, THREES))), 81)
        self.assertEqual(missing(List(12, THREES))[0], (0, 3, 6, 9))
        # 27 lots of one of each of three threes: 27 pairs, then 10 and 11 stands more.
        pairs = tuple(pair for pair in THREES if pair[1] < 9)
        for more, fits in ((10, True), (11, False)):
            extra = [(9,), (9, 10), (9, 10, 11), (9, 11), (10,), (10, 11), (11,), (0,), (1,), (2,), (3,)][:more]
            one = List(12, tuple(sorted(list(pairs) + extra)))
            self.assertEqual(len(missing(one)), 27)
            if fits:
                self.assertEqual(len(closed_up(one).stands), 64)
            else:
                self.assertEqual(self.raises(TooMany, closed_up, one).most, 64)

    def test_new_lists(self):
        first = missing(TRIANGLE)
        self.assertIsNot(first, missing(TRIANGLE))
        first.clear()
        self.assertEqual(missing(TRIANGLE), [(0, 1, 2)])
        self.assertEqual(TRIANGLE, List(3, ((0, 1), (0, 2), (1, 2))))


class Together(Raising, unittest.TestCase):
    def test_both_and_either(self):
        for one in THREE[::3] + random_lists(4, 20):
            for other in THREE[::7] + random_lists(4, 20):
                if one.places != other.places:
                    self.raises(OtherPlaces, listed_both, one, other)
                    self.raises(OtherPlaces, listed_either, one, other)
                    continue
                both = sorted(set(one.stands) & set(other.stands))
                either = sorted(set(one.stands) | set(other.stands))
                self.assertEqual(listed_either(one, other), List(one.places, tuple(either)))
                if both:
                    self.assertEqual(listed_both(one, other), List(one.places, tuple(both)))
                else:
                    self.raises(NoStands, listed_both, one, other)

    def test_bounds_of_both_and_either(self):
        lots = all_lots(7)
        half, rest = List(7, tuple(lots[:64])), List(7, tuple(lots[64:]))
        self.raises(NoStands, listed_both, half, rest)
        self.assertEqual(listed_both(half, half), half)
        self.assertEqual(listed_either(half, half), half)
        self.assertEqual(self.raises(TooMany, listed_either, half, rest).most, 64)
        self.assertEqual(self.raises(TooMany, listed_either, half, List(7, (lots[64],))).most, 64)
        self.assertEqual(listed_either(List(7, tuple(lots[1:64])), List(7, (lots[64],))), List(7, tuple(lots[1:65])))
        self.raises(OtherPlaces, listed_either, half, List(6, ((),)))
        self.raises(OtherPlaces, listed_both, half, List(8, ((0,),)))

    def test_side_by_side(self):
        for one in THREE[::5] + random_lists(4, 10):
            for other in THREE[::11] + random_lists(5, 10):
                put = sorted(a + tuple(place + one.places for place in b) for a in one.stands for b in other.stands)
                if len(put) > 64:
                    self.assertEqual(self.raises(TooMany, side_by_side, one, other).most, 64)
                    continue
                found = side_by_side(one, other)
                self.assertEqual(found, List(one.places + other.places, tuple(put)))
                if lack(one) is None and lack(other) is None:
                    self.assertIsNone(lack(found))

    def test_bounds_of_side_by_side(self):
        six, seven = List(6, tuple(all_lots(6))), List(7, tuple(all_lots(7)[:64]))
        self.assertEqual(self.raises(TooMany, side_by_side, six, seven).most, 12)
        self.assertEqual(self.raises(TooMany, side_by_side, List(6, ((),)), seven).most, 12)
        self.assertEqual(self.raises(TooMany, side_by_side, six, six).most, 64)
        self.assertEqual(side_by_side(List(6, ((),)), six).places, 12)
        eights = List(3, tuple(all_lots(3)))
        self.assertEqual(side_by_side(eights, eights), List(6, tuple(all_lots(6))))
        nines = List(4, tuple(all_lots(4)[:9]))
        self.assertEqual(self.raises(TooMany, side_by_side, nines, eights).most, 64)
        self.assertEqual(len(side_by_side(List(4, nines.stands[:8]), eights).stands), 64)
        self.assertEqual(self.raises(TooMany, side_by_side, List(1, ((), (0,))), List(12, ((),))).most, 12)

    def test_seen_at(self):
        for one in SOME[::3]:
            lots = all_lots(min(one.places, 5))[1:] + [(one.places - 1,), tuple(range(one.places))]
            for lot in lots:
                found = seen_at(one, lot)
                stands = {tuple(k for k, place in enumerate(lot) if place in stand) for stand in one.stands}
                self.assertEqual(found, List(len(lot), tuple(sorted(stands))))
                if lack(one) is None:
                    self.assertIsNone(lack(found))
            self.assertEqual(seen_at(one, tuple(range(one.places))), one)

    def test_seen_at_no_lot(self):
        for one in (TRIANGLE, List(1, ((),)), List(12, THREES)):
            self.raises_for_all(NoLot, seen_at, (one,), no_lots(one.places) + [()])

    def test_as_webs_show_them(self):
        """Webs beside one another show lists side by side, and fewer places show what is seen at them."""
        one, other = shown(row(4), (0, 1, 2)), shown(full(3), (0, 2))
        self.assertEqual(side_by_side(one, other).stands[0], one.stands[0] + tuple(p + 3 for p in other.stands[0]))
        self.assertEqual(seen_at(shown(row(4), (0, 1, 2, 3)), (1, 3)), shown(row(4), (1, 3)))
        self.assertEqual(near(row(2)), {0: {1}, 1: {0}})

    def test_nothing_is_changed(self):
        one, other = List(2, ((0,), (1,))), List(2, ((0,), (0, 1)))
        for function in (listed_both, listed_either, side_by_side):
            function(one, other)
        self.assertEqual((one, other), (List(2, ((0,), (1,))), List(2, ((0,), (0, 1)))))


class Wrong(Raising, unittest.TestCase):
    def test_not_shown(self):
        for one in (TRIANGLE, List(2, ((0,),)), List(5, ((0,),)), List(12, THREES), List(1, ((),))):
            self.raises(NotShown, fewest_hidden, one)

    def test_too_many_places(self):
        for one in (List(5, ((0, 1, 2, 3, 4),)), List(5, tuple(all_lots(5))), List(12, (tuple(range(12)),))):
            self.assertEqual(self.raises(TooMany, fewest_hidden, one).most, 4)
        self.assertEqual(fewest_hidden(List(4, ((0, 1, 2, 3),))), 0)

    def test_too_many_within(self):
        whole = (0, 1, 2, 3)
        inner = [(), (0,), (1,), (2, 3)]
        one = List(4, tuple(sorted(inner + [whole])))
        self.assertEqual(self.raises(TooMany, fewest_hidden, one).most, 3)
        self.assertIn(fewest_hidden(List(4, tuple(sorted(inner[:3] + [whole])))), (1, 2, 3))
        self.assertEqual(self.raises(TooMany, fewest_hidden, List(4, tuple(all_lots(4)))).most, 3)
        self.assertEqual(self.raises(TooMany, fewest_hidden, List(3, tuple(all_lots(3)))).most, 3)
        self.assertEqual(self.raises(TooMany, fewest_hidden, List(5, tuple(all_lots(5)))).most, 4)


if __name__ == "__main__":
    unittest.main()
