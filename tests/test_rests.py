"""3.1, 3.2: the rests, and how many there are at most."""

import unittest
from itertools import combinations

from silencers.calls import is_rest
from silencers.errors import NoLot, NoNumber, NoRest, TooMany
from silencers.rests import (
    fullest_web, greatest_rest, held_by, is_fullest, many_rests, many_with, most_rests, rest_at, rest_number,
    rest_sizes, rests, smallest_rest,
)
from silencers.webs import Web, beside, copied, full, joined, put_in, renamed, ring, row, tie, untie
from things import (
    Raising, all_lots, all_webs, big_webs, is_free, no_lots, no_numbers, plain_rests, random_web, small_webs, webs_of_24,
)

THREES = tuple(pair for k in range(0, 24, 3) for pair in ((k, k + 1), (k, k + 2), (k + 1, k + 2)))
LATCH = Web(2, ((0, 1),))


def eleven():
    """A web of 2048 rests: eleven twos, each tied."""
    return Web(22, tuple((k, k + 1) for k in range(0, 22, 2)))


def two_thousand():
    """A web of 2000 rests: four fives all tied, beside four twos."""
    fives = beside(beside(full(5), full(5)), full(5))
    return beside(beside(beside(fives, full(4)), full(2)), full(2))


def rests_by_putting(web):
    """The rests by the first fact: the lots that come of putting in parts in any order."""
    found = [()]
    for part in range(web.size):
        found = [lot + (part,) for lot in found if is_free(web, lot + (part,))] + found
    return sorted(lot for lot in found if is_rest(web, lot))


def plain_sizes(found):
    sizes = [len(rest) for rest in found]
    return {size: sizes.count(size) for size in sizes}


class SmallWebs(unittest.TestCase):
    def setUp(self):
        self.webs = [(web, plain_rests(web)) for web in small_webs()]

    def test_examples(self):
        four = row(4)
        self.assertEqual((rests(LATCH), many_rests(four), rests(four)), ([(0,), (1,)], 3, [(0, 2), (0, 3), (1, 3)]))
        self.assertEqual(most_rests(7), 12)

    def test_rests(self):
        for web, wanted in self.webs:
            found = rests(web)
            self.assertIsInstance(found, list)
            self.assertEqual(found, wanted)
            self.assertEqual(many_rests(web), len(wanted))

    def test_numbers(self):
        for web, wanted in self.webs:
            self.assertEqual([rest_at(web, number) for number in range(len(wanted))], wanted)
            self.assertEqual([rest_number(web, rest) for rest in wanted], list(range(len(wanted))))

    def test_smallest_and_greatest(self):
        for web, wanted in self.webs:
            self.assertEqual(smallest_rest(web), min(wanted, key=lambda rest: (len(rest), rest)))
            self.assertEqual(greatest_rest(web), min(wanted, key=lambda rest: (-len(rest), rest)))

    def test_sizes(self):
        for web, wanted in self.webs:
            found = rest_sizes(web)
            self.assertIsInstance(found, dict)
            self.assertEqual(found, plain_sizes(wanted))

    def test_many_with(self):
        for web, wanted in self.webs:
            if web.size > 5:
                continue
            lots = all_lots(web.size)
            for yes in lots:
                for no in lots:
                    many = len([rest for rest in wanted if set(yes) <= set(rest) and not set(no) & set(rest)])
                    self.assertEqual(many_with(web, yes, no), many)

    def test_many_with_more_parts(self):
        for web, wanted in self.webs:
            if web.size > 5:
                for yes in all_lots(web.size)[::7]:
                    for no in all_lots(web.size)[::11]:
                        many = len([rest for rest in wanted if set(yes) <= set(rest) and not set(no) & set(rest)])
                        self.assertEqual(many_with(web, yes, no), many)

    def test_held_by(self):
        for web, wanted in self.webs:
            for lot in all_lots(web.size):
                held = [rest for rest in wanted if set(lot) <= set(rest)]
                self.assertEqual(held_by(web, lot), held[0] if held else None)
                self.assertEqual(held_by(web, lot) is None, not is_free(web, lot))

    def test_new_each_time(self):
        web = row(5)
        for function in (rests, rest_sizes):
            first = function(web)
            self.assertIsNot(function(web), first)
            wanted = function(web)
            first.clear()
            self.assertEqual(function(web), wanted)
        self.assertEqual(web, row(5))


class Webs24(unittest.TestCase):
    def test_known_numbers(self):
        self.assertEqual(many_rests(Web(24, ())), 1)
        self.assertEqual(rests(Web(24, ())), [tuple(range(24))])
        self.assertEqual(rests(full(24)), [(part,) for part in range(24)])
        self.assertEqual(many_rests(Web(24, THREES)), 6561)
        self.assertEqual(many_rests(Web(21, THREES[:21])), 2187)
        # The rests of a row, and of a ring, of n parts: those of n - 2 and of n - 3 together.
        rows, rings = [1, 1, 2, 2], [3, 0, 2, 3]
        for size in range(4, 25):
            rows.append(rows[size - 2] + rows[size - 3])
            rings.append(rings[size - 2] + rings[size - 3])
            self.assertEqual(many_rests(row(size)), rows[size])
            self.assertEqual(many_rests(ring(size)), rings[size])

    def test_going_through_all(self):
        for web in webs_of_24():
            wanted = rests_by_putting(web) if len(web.ties) > 40 else rests(web)
            self.assertEqual(rests(web), wanted)
            self.assertEqual(many_rests(web), len(wanted))
            self.assertTrue(all(is_rest(web, rest) for rest in wanted))
            self.assertEqual(rest_sizes(web), plain_sizes(wanted))
            self.assertEqual(smallest_rest(web), min(wanted, key=lambda rest: (len(rest), rest)))
            self.assertEqual(greatest_rest(web), min(wanted, key=lambda rest: (-len(rest), rest)))
            for number in range(0, len(wanted), 1 + len(wanted) // 40):
                self.assertEqual(rest_at(web, number), wanted[number])
                self.assertEqual(rest_number(web, wanted[number]), number)

    def test_there_and_back_beyond_2000(self):
        web = Web(24, THREES)
        for number in list(range(0, 6561, 97)) + [6560]:
            rest, left = [], number
            for k in range(7, -1, -1):
                rest.append(3 * k + left % 3)
                left //= 3
            self.assertEqual(rest_at(web, number), tuple(sorted(rest)))
            self.assertEqual(rest_number(web, tuple(sorted(rest))), number)

    def test_many_with(self):
        web = Web(24, THREES)
        self.assertEqual(many_with(web, (), ()), 6561)
        self.assertEqual(many_with(web, (0, 3), ()), 729)
        self.assertEqual(many_with(web, (0, 1), ()), 0)
        self.assertEqual(many_with(web, (0,), (0,)), 0)
        self.assertEqual(many_with(web, (0,), (1, 2, 4)), 1458)
        self.assertEqual(many_with(web, (), (0, 1)), 2187)
        self.assertEqual(many_with(web, (), (0, 1, 2)), 0)
        self.assertEqual(many_with(web, (), tuple(range(24))), 0)

    def test_least_of_several(self):
        self.assertEqual(smallest_rest(ring(4)), (0, 2))
        self.assertEqual(greatest_rest(ring(5)), (0, 2))
        self.assertEqual(greatest_rest(full(5)), (0,))
        self.assertEqual(smallest_rest(Web(4, ((0, 1), (0, 2), (0, 3)))), (0,))
        self.assertEqual(greatest_rest(Web(4, ((0, 1), (0, 2), (0, 3)))), (1, 2, 3))
        self.assertEqual(smallest_rest(Web(24, THREES)), tuple(range(0, 24, 3)))


class BigWebs(unittest.TestCase):
    def test_together(self):
        a, b = random_web(24, 3, 11), random_web(24, 5, 12)
        self.assertEqual(many_rests(beside(a, b)), many_rests(a) * many_rests(b))
        self.assertEqual(many_rests(joined(a, b)), many_rests(a) + many_rests(b))
        self.assertEqual(rests(joined(a, b)), rests(a) + [tuple(k + 24 for k in rest) for rest in rests(b)])
        with_part = many_with(a, (7,), ())
        self.assertEqual(many_rests(put_in(a, 7, b)), many_rests(a) - with_part + with_part * many_rests(b))

    def test_copies(self):
        for web in (row(24), ring(24), random_web(24, 4, 2)):
            wanted = [tuple(6 * part + copy for part in rest for copy in range(6)) for rest in rests(web)]
            self.assertEqual(rests(copied(web, 6)), wanted)
            self.assertEqual(many_rests(copied(copied(web, 6), 6)), len(wanted))
            sizes = {36 * size: many for size, many in rest_sizes(web).items()}
            self.assertEqual(rest_sizes(copied(copied(web, 6), 6)), sizes)

    def test_there_and_back(self):
        for web in big_webs():
            many = many_rests(web)
            for number in sorted({0, 1, many // 3, many // 2, many - 1}):
                rest = rest_at(web, number)
                self.assertIs(is_rest(web, rest), True)
                self.assertEqual(rest_number(web, rest), number)

    def test_the_others(self):
        for web in big_webs():
            least, greatest = smallest_rest(web), greatest_rest(web)
            self.assertIs(is_rest(web, least), True)
            self.assertIs(is_rest(web, greatest), True)
            self.assertLessEqual(len(least), len(greatest))
            self.assertEqual(held_by(web, ()), rest_at(web, 0))
            self.assertEqual(held_by(web, (web.size - 1,))[-1], web.size - 1)
            self.assertIsNone(held_by(web, web.ties[0]))
            self.assertEqual(many_with(web, (3,), ()) + many_with(web, (), (3,)), many_rests(web))
            self.assertEqual(many_with(web, (3,), (3,)), 0)
            self.assertIs(is_fullest(web), False)
            if many_rests(web) <= 2000:
                self.assertEqual(len(rests(web)), many_rests(web))
                self.assertEqual(rest_sizes(web), plain_sizes(rests(web)))
                self.assertEqual((least, greatest), (
                    min(rests(web), key=lambda rest: (len(rest), rest)),
                    min(rests(web), key=lambda rest: (-len(rest), rest))))

    def test_more_parts_than_python_goes_deep(self):
        web = row(24)
        for part in range(23, -1, -1):
            web = put_in(web, part, ring(24) if part % 4 else full(24))
        self.assertEqual(web.size, 576)
        self.assertEqual(rest_number(web, rest_at(web, 10 ** 20)), 10 ** 20)
        self.assertEqual(many_rests(copied(copied(copied(row(8), 6), 6), 6)), many_rests(row(8)))

    def test_beyond_60_digits_and_parts(self):
        web = Web(24, THREES)
        for _ in range(2):
            web = beside(web, web)
        self.assertEqual(many_rests(web), 3 ** 32)
        self.assertIs(is_fullest(web), True)
        self.assertIs(is_fullest(untie(web, 0, 1)), False)
        self.assertEqual(rest_at(web, 3 ** 32 - 1), tuple(range(2, 96, 3)))


class Wrong(Raising, unittest.TestCase):
    def test_too_many(self):
        for web in (eleven(), Web(24, THREES), beside(row(24), row(24))):
            for function in (rests, rest_sizes):
                self.assertEqual(self.raises(TooMany, function, web).most, 2000)

    def test_2000_rests(self):
        web = two_thousand()
        self.assertEqual((web.size, many_rests(web)), (23, 2000))
        found = rests(web)
        self.assertEqual(len(found), 2000)
        self.assertEqual(found, sorted(found))
        self.assertEqual(rest_sizes(web), {6: 2000})
        # One rest more: 2001 is 3 * 23 * 29.
        more = beside(beside(full(3), full(23)), joined(full(24), full(5)))
        self.assertEqual(many_rests(more), 2001)
        for function in (rests, rest_sizes):
            self.raises(TooMany, function, more)

    def test_no_number(self):
        for web, many in ((row(4), 3), (Web(1, ()), 1), (Web(24, THREES), 6561), (copied(row(4), 6), 3)):
            self.raises_for_all(NoNumber, rest_at, (web,), no_numbers() + [many, many + 1, -1, -many, 10 ** 59])
            self.assertEqual(rest_number(web, rest_at(web, many - 1)), many - 1)

    def test_no_rest(self):
        for web in (row(4), Web(1, ()), full(3), copied(row(4), 6)):
            no_rests = [(), (0, 1), (1,), (0, 1, 2, 3), [0, 2], [0], (2, 0)]
            wrong = no_lots(web.size) + [thing for thing in no_rests if not is_rest(web, thing)]
            self.raises_for_all(NoRest, rest_number, (web,), wrong)

    def test_no_lot(self):
        for web in (row(4), Web(1, ()), copied(row(4), 6)):
            wrong = no_lots(web.size)
            self.raises_for_all(NoLot, many_with, (web,), wrong, ((),))
            self.raises_for_all(NoLot, many_with, (web, ()), wrong)
            self.raises_for_all(NoLot, many_with, (web, None), wrong)
            self.raises_for_all(NoLot, held_by, (web,), wrong)


class Most(Raising, unittest.TestCase):
    def test_most_rests(self):
        self.assertEqual([most_rests(size) for size in range(1, 11)], [1, 2, 3, 4, 6, 9, 12, 18, 27, 36])
        for size in range(2, 61):
            wanted = {0: 3 ** (size // 3), 1: 4 * 3 ** ((size - 4) // 3), 2: 2 * 3 ** ((size - 2) // 3)}[size % 3]
            self.assertEqual(most_rests(size), wanted)

    def test_most_rests_is_reached_and_not_passed(self):
        for size in range(1, 6):
            self.assertEqual(max(many_rests(web) for web in all_webs(size)), most_rests(size))

    def test_most_rests_no_number(self):
        self.raises_for_all(NoNumber, most_rests, (), no_numbers() + [0, -1, 61, 62, 10 ** 59])

    def test_is_fullest(self):
        for size in range(1, 5):
            for web in all_webs(size):
                self.assertIs(is_fullest(web), many_rests(web) == most_rests(size))

    def test_fullest_web(self):
        for size in range(1, 25):
            web = fullest_web(size)
            self.assertIsInstance(web, Web)
            self.assertEqual(web.size, size)
            self.assertEqual(web, Web(size, web.ties))
            self.assertEqual(many_rests(web), most_rests(size))
            self.assertIs(is_fullest(web), True)
            self.assertEqual(fullest_web(size), web)

    def test_a_tie_more_or_less(self):
        for size in (6, 8, 9, 24):
            web = fullest_web(size)
            missing = [pair for pair in combinations(range(size), 2) if pair not in web.ties][:20]
            for a, b in missing:
                self.assertIs(is_fullest(tie(web, a, b)), False)
            for a, b in web.ties:
                self.assertIs(is_fullest(untie(web, a, b)), False)
        self.assertIs(is_fullest(renamed(fullest_web(6), (5, 0, 4, 1, 3, 2))), True)
        self.assertIs(is_fullest(full(4)), True)
        self.assertIs(is_fullest(Web(4, ((0, 1), (2, 3)))), True)
        self.assertIs(is_fullest(ring(4)), False)

    def test_fullest_web_no_number(self):
        self.raises_for_all(NoNumber, fullest_web, (), no_numbers() + [0, -1, 25, 60, 10 ** 59])


if __name__ == "__main__":
    unittest.main()
