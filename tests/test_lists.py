"""5.1, 5.2, and `within` of 5.3: lists, what webs show, and what no web shows."""

import unittest
from itertools import combinations, permutations, product
from random import Random

from silencers.errors import BadList, NoShowing, TooMany
from silencers.lists import List, can_be_shown, is_lack, is_showing, lack, shown, within
from silencers.making import web_for
from silencers.webs import Web, beside, copied, full, joined, ring, row
from things import (
    Raising, all_lists, all_lots, all_webs, no_numbers, plain_lack, plain_rests, plain_shown, random_lists, random_web,
    small_webs, things,
)

LATCH = Web(2, ((0, 1),))
TRIANGLE = List(3, ((0, 1), (0, 2), (1, 2)))
SIXES = tuple(all_lots(6))
SOME = all_lists(3) + random_lists(4, 150) + random_lists(5, 60) + random_lists(12, 20)
TWOS = Web(22, tuple((k, k + 1) for k in range(0, 22, 2)))


def no_showings(size):
    """What is no showing of a web of so many parts."""
    return things() + [
        (), [], [0], 0, (size,), (0, size), (0, 0), (-1,), (0, -1), (0, 1, 0), tuple(range(13)), {0: 1}, ((0,), (0,)),
    ]


class Made(Raising, unittest.TestCase):
    def bad(self, part, *passed):
        self.assertEqual(self.raises(BadList, List, *passed).part, part)

    def test_made(self):
        for places, stands in ((1, ((),)), (1, ((), (0,))), (12, ((0, 11), (1,), (2, 3, 4))), (6, SIXES)):
            made = List(places, stands)
            self.assertEqual((made.places, made.stands), (places, stands))
            self.assertIsInstance(made.stands, tuple)

    def test_places(self):
        for thing in no_numbers() + [0, -1, 13, 24, 10 ** 59, -(10 ** 59)]:
            self.bad("places", thing, ((),))
            self.bad("places", thing, None)
        for places in range(1, 13):
            self.assertEqual(List(places, ((places - 1,),)).places, places)

    def test_stands(self):
        wrong = [thing for thing in things() if not isinstance(thing, tuple)]
        for thing in wrong + [(), [], [()], [(0,)], {(): 1}, 0, "()", ((),) * 65, (None,) * 65, tuple(all_lots(7))]:
            self.bad("stands", 12, thing)
        self.bad("stands", 7, tuple(all_lots(7)[:65]))
        self.assertEqual(len(List(7, tuple(all_lots(7)[:64])).stands), 64)

    def test_first_wrong_stand(self):
        wrong = [thing for thing in things() if not isinstance(thing, tuple)] + [
            (None,), ("0",), (True,), (0, True), (0, None), (4,), (0, 4), (1, 0), (1, 1), (-1,), (-1, 0), [0], [], 0,
            ((0,),), ((),), (10 ** 59,), (0, 1, 2, 3, 4), List(1, ((),)),
        ]
        for thing in wrong:
            self.bad(0, 4, (thing,))
            self.bad(0, 4, (thing, thing, ()))
            self.bad(1, 4, ((), thing))
            self.bad(2, 4, ((0,), (1,), thing, ()))
            self.bad(63, 6, SIXES[:63] + (thing if thing not in SIXES else (1, 0),))
        self.bad(0, 3, ((3,),))
        self.bad(0, 1, ((0, 1),))

    def test_order(self):
        self.bad(1, 3, ((), ()))
        self.bad(1, 3, ((0,), ()))
        self.bad(1, 3, ((0, 1), (0,)))
        self.bad(2, 3, ((), (1,), (0, 1)))
        self.bad(2, 3, ((), (1,), (1,), (0,), None))
        self.bad(1, 3, ((1,), (0,), None))
        self.assertEqual(List(3, ((0,), (0, 1), (0, 1, 2), (0, 2), (1,))).stands[3], (0, 2))

    def test_equal(self):
        one = List(3, ((0,), (1, 2)))
        self.assertTrue(one == List(3, ((0,), (1, 2))))
        self.assertFalse(one != List(3, ((0,), (1, 2))))
        for other in (List(4, ((0,), (1, 2))), List(3, ((0,), (1,))), List(3, ((0,),))):
            self.assertFalse(one == other)
            self.assertTrue(one != other)
        for thing in things() + [(3, ((0,), (1, 2))), Web(3, ()), ((0,), (1, 2))]:
            self.assertFalse(one == thing)
            self.assertTrue(one != thing)


class Shown(Raising, unittest.TestCase):
    def test_small_webs(self):
        for web in small_webs():
            if web.size < 5:
                for many in range(1, web.size + 1):
                    for showing in permutations(range(web.size), many):
                        self.check(web, showing)

    def test_more_parts(self):
        luck = Random(7)
        for web in small_webs() + [random_web(10, 3, 1), ring(11), row(12)]:
            if web.size > 4:
                for many in range(1, web.size + 1):
                    self.check(web, tuple(luck.sample(range(web.size), many)))

    def check(self, web, showing):
        found = shown(web, showing)
        self.assertIsInstance(found, List)
        self.assertEqual((found.places, found.stands), (len(showing), plain_shown(web, showing)))
        self.assertEqual(found, List(found.places, found.stands))
        self.assertIs(is_showing(web, found, showing), True)
        self.assertIs(can_be_shown(found), True)

    def test_is_showing(self):
        lists = [one for one in all_lists(3) if one.places > 1]
        for web in [web for web in small_webs() if web.size in (3, 4)][::5]:
            for many in (2, 3):
                for showing in permutations(range(web.size), many):
                    stands = plain_shown(web, showing)
                    for one in lists:
                        right = one.places == many and one.stands == stands
                        self.assertIs(is_showing(web, one, showing), right)

    def test_what_is_no_showing(self):
        for web in (row(4), copied(row(4), 6), TWOS, beside(TWOS, TWOS), Web(24, ())):
            for thing in no_showings(web.size):
                self.assertIs(is_showing(web, List(2, ((0,), (1,))), thing), False)
                self.assertIs(is_showing(web, List(1, ((),)), thing), False)
            self.raises_for_all(NoShowing, shown, (web,), no_showings(web.size))
        self.raises_for_all(NoShowing, shown, (Web(1, ()),), no_showings(1) + [(0, 1)])

    def test_another_number_of_places(self):
        one = shown(row(4), (0, 1))
        for showing in ((0,), (1, 0, 2), (0, 1, 2, 3)):
            self.assertIs(is_showing(row(4), one, showing), False)
            self.assertIs(is_showing(TWOS, one, showing), False)
        self.assertEqual(self.raises(TooMany, is_showing, TWOS, one, (0, 1)).most, 2000)

    def test_too_many_rests(self):
        self.assertEqual(self.raises(TooMany, shown, TWOS, (0,)).most, 2000)
        self.assertEqual(self.raises(TooMany, shown, TWOS, tuple(range(12))).most, 2000)
        self.assertEqual(self.raises(TooMany, is_showing, TWOS, List(1, ((), (0,))), (0,)).most, 2000)
        most = beside(beside(beside(beside(full(5), full(5)), full(5)), full(4)), beside(full(2), full(2)))
        self.assertEqual(shown(most, (0,)), List(1, ((), (0,))))
        self.assertIs(is_showing(most, List(1, ((), (0,))), (22,)), True)
        self.assertIs(is_showing(most, List(1, ((),)), (22,)), False)
        more = beside(beside(full(3), full(23)), joined(full(24), full(5)))
        self.assertEqual(self.raises(TooMany, shown, more, (0,)).most, 2000)

    def test_too_many_stands(self):
        six = Web(12, tuple((k, k + 1) for k in range(0, 12, 2)))
        ways = tuple(range(0, 12, 2))
        self.assertEqual(shown(six, ways), List(6, SIXES))
        self.assertIs(is_showing(six, List(6, SIXES), ways), True)
        self.assertIs(is_showing(six, List(6, SIXES[:63]), ways), False)
        seven = beside(six, full(2))
        self.assertEqual(self.raises(TooMany, shown, seven, ways + (12,)).most, 64)
        self.assertIs(is_showing(seven, List(7, tuple(all_lots(7)[:64])), ways + (12,)), False)
        # 65 stands: those 64, and the one of the part that is tied to all others.
        more = joined(six, Web(1, ()))
        self.assertEqual(self.raises(TooMany, shown, more, ways + (12,)).most, 64)
        self.assertEqual(shown(more, ways), List(6, SIXES))

    def test_returned_webs(self):
        web = copied(copied(ring(5), 6), 6)
        self.assertEqual(shown(web, (0, 36, 72, 108, 144)), shown(ring(5), (0, 1, 2, 3, 4)))
        self.assertEqual(shown(web, (35, 0)), List(2, ((), (0, 1))))
        self.assertEqual(shown(web, (179, 0)), List(2, ((), (0,), (1,))))
        self.assertEqual(web, copied(copied(ring(5), 6), 6))


class Lacks(unittest.TestCase):
    def test_examples(self):
        self.assertEqual(lack(TRIANGLE), ("three", 0, 1, 2))
        some = List(3, ((0,), (0, 1), (2,)))
        self.assertEqual((can_be_shown(some), within(some)), (True, (0, 1)))

    def test_lack(self):
        for one in SOME:
            found = lack(one)
            self.assertEqual(found, plain_lack(one))
            self.assertIs(can_be_shown(one), found is None)
            if found is not None:
                self.assertIsInstance(found, tuple)
                self.assertIs(is_lack(one, found), True)

    def test_is_lack(self):
        for one in SOME[::3]:
            held = [set(stand) for stand in one.stands]
            for place in range(-1, one.places + 1):
                right = 0 <= place < one.places and not any(place in stand for stand in held)
                self.assertIs(is_lack(one, ("never", place)), right)
            for a, b, c in product(range(-1, min(6, len(held)) + 1), repeat=3):
                right = 0 <= a < b < c < len(held)
                if right:
                    places = held[a] & held[b] | held[a] & held[c] | held[b] & held[c]
                    right = not any(places <= stand for stand in held)
                self.assertIs(is_lack(one, ("three", a, b, c)), right)

    def test_what_is_no_lack(self):
        never = List(3, ((0, 2),))
        self.assertIs(is_lack(never, ("never", 1)), True)
        self.assertIs(is_lack(TRIANGLE, ("three", 0, 1, 2)), True)
        wrong = things() + [
            (), ("never",), ("never", 1, 1), ["never", 1], ("never", True), ("never", 3), ("never", -1), ("never", "1"),
            ("never", None), ("never", (1,)), (b"never", 1), ("Never", 1), ("three", 1), ("never", 0, 1, 2), (1, "never"),
            ["three", 0, 1, 2], ("three", False, 1, 2), ("three", 0, True, 2), ("three", 0, 1), ("three", 0, 1, 2, 3),
            ("three", (0, 1, 2)), ("three", 0, 2, 1), ("three", 0, 0, 1), ("three", 0, 1, 3), ("three", -1, 0, 1),
            ("three", 0, 1, None), ("three", 0, 1, "2"), "never", "three", ("three",), (("three", 0, 1, 2),),
        ]
        for one in (never, TRIANGLE):
            for thing in wrong + [("never", thing) for thing in things()] + [("three", 0, 1, thing) for thing in things()]:
                self.assertIs(is_lack(one, thing), False)
            for thing in things():
                self.assertIs(is_lack(one, (thing, 1)), False)
                self.assertIs(is_lack(one, (thing, 0, 1, 2)), False)

    def test_known(self):
        self.assertEqual(lack(List(1, ((),))), ("never", 0))
        self.assertEqual(lack(List(12, (tuple(range(11)),))), ("never", 11))
        self.assertIsNone(lack(List(1, ((), (0,)))))
        self.assertIsNone(lack(List(12, (tuple(range(12)),))))
        self.assertIsNone(lack(List(3, ((0, 1), (0, 1, 2), (0, 2), (1, 2)))))
        # A place that is never is a lack ahead of three stands.
        self.assertEqual(lack(List(4, ((0, 1), (0, 2), (1, 2)))), ("never", 3))
        self.assertIs(is_lack(List(4, ((0, 1), (0, 2), (1, 2))), ("three", 0, 1, 2)), True)
        self.assertIsNone(lack(List(6, SIXES)))
        pairs = tuple(combinations(range(12), 2))[:64]
        self.assertEqual(lack(List(12, pairs)), ("three", 0, 1, 11))

    def test_the_fourth_fact(self):
        """All that webs of up to five parts show is without a lack, and what is without one is shown."""
        for web in [web for size in range(1, 6) for web in all_webs(size)][::2]:
            for many in range(1, web.size + 1):
                self.assertIs(can_be_shown(List(many, plain_shown(web, tuple(range(many))))), True)
        for one in SOME:
            made = web_for(one)
            self.assertEqual(made is None, lack(one) is not None)
            if made is not None:
                self.assertEqual(plain_shown(*made) if made[0].size < 9 else shown(*made).stands, one.stands)

    def test_within(self):
        for one in SOME:
            pairs = [(i, j) for i, inner in enumerate(one.stands) for j, outer in enumerate(one.stands)
                     if set(inner) < set(outer)]
            self.assertEqual(within(one), min(pairs) if pairs else None)
        self.assertIsNone(within(List(2, ((0,), (1,)))))
        self.assertEqual(within(List(2, ((), (0,), (1,)))), (0, 1))
        self.assertEqual(within(List(3, ((0, 1, 2), (1,)))), (1, 0))
        self.assertEqual(within(List(4, ((0, 3), (1, 2), (1, 2, 3)))), (1, 2))

    def test_nothing_is_changed(self):
        one = List(3, ((0, 1), (0, 2), (1, 2)))
        lack(one), is_lack(one, ("three", 0, 1, 2)), within(one), can_be_shown(one)
        self.assertEqual(one, TRIANGLE)
        self.assertEqual(plain_rests(LATCH), [(0,), (1,)])


if __name__ == "__main__":
    unittest.main()
