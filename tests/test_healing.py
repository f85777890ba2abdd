"""8.1 to 8.3: how many parts a rest can lose, what harms it, and webs that heal."""

import unittest
from itertools import combinations, product

from silencers.calls import is_rest
from silencers.errors import NoNumber, NoPart, NoRest, TooMany
from silencers.healing import harm, healing_web, heals, is_harm, slip, strength, weakest
from silencers.lists import List, lack, shown
from silencers.rests import many_rests, rest_at, rests
from silencers.webs import Web, beside, copied, full, joined, ring, row
from things import (
    Raising, all_lists, all_lots, big_webs, near, no_lots, no_numbers, no_parts, no_rows, plain_behind, plain_ends,
    plain_rests, random_lists, random_web, same_web, small_webs, things, webs_of_24,
)

LATCH = Web(2, ((0, 1),))
FEW = [web for web in small_webs() if web.size < 6] + [copied(LATCH, 3), copied(LATCH, 2), copied(row(3), 2)]
TWOS = Web(22, tuple((k, k + 1) for k in range(0, 22, 2)))
PROBES = (row(4), full(3), ring(5), copied(row(4), 6))


def without(rest, fallen):
    return tuple(part for part in rest if part not in fallen)


def plain_strength(web, rest):
    """The greatest number by going through all that can fall, None if all of the rest can."""
    for many in range(1, len(rest) + 1):
        for fallen in combinations(rest, many):
            if plain_ends(web, without(rest, fallen)) != [rest]:
                return many - 1
    return None


def no_rests(web):
    wrong = [(), (0, 1), (1,), (0, 1, 2, 3), [0, 2], [0], (2, 0)]
    return no_lots(web.size) + [thing for thing in wrong if not is_rest(web, thing)]


def no_counts():
    """What is no integer from 0 on."""
    return no_numbers() + [-1, -2, -(10 ** 59)]


class Healing(Raising, unittest.TestCase):
    def setUp(self):
        self.cases = [(web, rest, plain_strength(web, rest)) for web in FEW for rest in plain_rests(web)]

    def test_examples(self):
        self.assertEqual((strength(full(3), (0,)), strength(copied(LATCH, 2), (0, 1))), (0, 1))

    def test_strength(self):
        for web, rest, wanted in self.cases:
            self.assertEqual(strength(web, rest), wanted)
            self.assertEqual(wanted is None, len(rest) == web.size)

    def test_heals(self):
        for web, rest, wanted in self.cases:
            for many in list(range(web.size + 2)) + [10 ** 59]:
                self.assertIs(heals(web, rest, many), wanted is None or many <= wanted)

    def test_the_eighth_fact(self):
        for web, rest, wanted in self.cases:
            tied = near(web)
            for many in range(4):
                few = [part for part in tied if part not in rest and len(tied[part] & set(rest)) <= many]
                self.assertEqual(heals(web, rest, many), not few)

    def check_harm(self, web, rest, many):
        found = harm(web, rest, many)
        self.assertEqual(found is None, heals(web, rest, many))
        if found is not None:
            self.assertIsInstance(found, tuple)
            fallen, calls = found
            self.assertLessEqual(len(fallen), many)
            self.assertEqual(fallen, tuple(sorted(set(fallen) & set(rest))))
            end = plain_behind(web, without(rest, fallen), calls)
            self.assertTrue(is_rest(web, end))
            self.assertNotEqual(end, rest)
            self.assertIs(is_harm(web, rest, many, found), True)
            self.assertIs(is_harm(web, rest, 10 ** 59, (fallen, list(calls))), True)
            self.assertIs(is_harm(web, rest, len(fallen) - 1, found), False)

    def test_harm(self):
        for web, rest, _ in self.cases:
            for many in list(range(4)) + [10 ** 59]:
                self.check_harm(web, rest, many)

    def test_slip(self):
        for web, rest, _ in self.cases:
            for part in range(web.size):
                if part in rest:
                    self.raises(NoPart, slip, web, rest, part)
                    continue
                calls = slip(web, rest, part)
                self.assertIsInstance(calls, tuple)
                end = plain_behind(web, tuple(sorted(rest + (part,))), calls)
                self.assertTrue(is_rest(web, end))
                self.assertNotEqual(end, rest)

    def test_weakest(self):
        for web in FEW:
            found = weakest(web)
            self.assertIsInstance(found, tuple)
            pairs = [(plain_strength(web, rest), rest) for rest in plain_rests(web)]
            known = [pair for pair in pairs if pair[0] is not None]
            self.assertEqual(found, min(known) if known else (None, plain_rests(web)[0]))
            self.assertEqual(not known, not web.ties)


class MoreParts(Healing):
    """The same of webs of 24 parts and of returned ones, by the eighth fact."""

    def setUp(self):
        self.cases = []
        for web in webs_of_24() + big_webs():
            many = many_rests(web)
            tied = near(web)
            for number in sorted({0, many // 2, many - 1}):
                rest = rest_at(web, number)
                outside = [len(tied[part] & set(rest)) for part in range(web.size) if part not in rest]
                self.cases.append((web, rest, min(outside) - 1 if outside else None))

    def test_heals(self):
        for web, rest, wanted in self.cases:
            for many in (0, 1, 2, 3, 5, 6, 23, 10 ** 59):
                self.assertIs(heals(web, rest, many), wanted is None or many <= wanted)

    def test_slip(self):
        for web, rest, _ in self.cases:
            for part in [part for part in range(web.size) if part not in rest][::9]:
                stand = tuple(sorted(rest + (part,)))
                end = plain_behind(web, stand, slip(web, rest, part)) if web.size < 100 else ()
                self.assertTrue(web.size > 99 or is_rest(web, end) and end != rest)

    def test_harm(self):
        for web, rest, _ in self.cases:
            for many in (0, 1, 4, 10 ** 59):
                if web.size < 100:
                    self.check_harm(web, rest, many)
                else:
                    self.assertEqual(harm(web, rest, many) is None, heals(web, rest, many))

    def test_weakest(self):
        for web in webs_of_24() + big_webs():
            if many_rests(web) > 2000:
                self.assertEqual(self.raises(TooMany, weakest, web).most, 2000)
                continue
            pairs = [(strength(web, rest), rest) for rest in rests(web)]
            known = [pair for pair in pairs if pair[0] is not None]
            self.assertEqual(weakest(web), min(known) if known else (None, pairs[0][1]))


class Judged(Raising, unittest.TestCase):
    def test_all_short_things(self):
        for web in (LATCH, row(3), full(3), row(4), copied(LATCH, 2)):
            rows = [calls for many in range(4) for calls in product(range(web.size), repeat=many)]
            wanted = plain_rests(web)
            for rest in wanted:
                for fallen in all_lots(web.size):
                    inside = set(fallen) <= set(rest)
                    for calls in rows[::2]:
                        end = plain_behind(web, without(rest, fallen), calls)
                        harmed = inside and end in wanted and end != rest
                        for many in range(3):
                            right = harmed and len(fallen) <= many
                            self.assertIs(is_harm(web, rest, many, (fallen, calls)), right)
                            self.assertIs(is_harm(web, rest, many, (fallen, list(calls))), right)

    def test_what_is_no_harm(self):
        for web in PROBES:
            rest = rests(web)[0]
            fallen, calls = harm(web, rest, 10)
            self.assertIs(is_harm(web, rest, 10, (fallen, calls)), True)
            wrong = things() + [(), (fallen,), [fallen, calls], (fallen, calls, ()), fallen, calls, (calls, fallen)]
            for thing in wrong:
                self.assertIs(is_harm(web, rest, 10, thing), False)
            for thing in no_lots(web.size) + [list(fallen), fallen[::-1] + fallen, fallen + (99,)]:
                self.assertIs(is_harm(web, rest, 10, (thing, calls)), False)
            for thing in no_rows(web.size):
                self.assertIs(is_harm(web, rest, 10, (fallen, thing)), False)
            self.assertIs(is_harm(web, rest, 10, (fallen, ())), False)

    def test_rows_of_1000(self):
        self.assertIs(is_harm(row(4), (0, 2), 1, ((0,), [1] + [0, 3, 2] * 333)), False)
        self.assertIs(is_harm(row(4), (0, 2), 2, ((0, 2), [1, 3] * 500)), True)
        self.assertIs(is_harm(row(4), (0, 2), 2, ((0, 2), [1, 3] * 500 + [1])), False)

    def test_arguments_stay(self):
        calls = [1, 3]
        is_harm(row(4), (0, 2), 2, ((0, 2), calls))
        self.assertEqual(calls, [1, 3])


class HealingWebs(Raising, unittest.TestCase):
    def check(self, one, many):
        found = healing_web(one, many)
        if lack(one) is not None:
            self.assertIsNone(found)
            return
        self.assertIsInstance(found, tuple)
        web, showing = found
        same_web(self, web, web.size, web.ties)
        self.assertEqual(shown(web, showing), one)
        self.assertTrue(all(heals(web, rest, many) for rest in rests(web)))
        least = weakest(web)[0]
        self.assertTrue(least is None or least >= many)

    def test_lists(self):
        """Also the ninth fact."""
        for many in range(4):
            for one in (all_lists(3) + random_lists(4, 30) + random_lists(5, 20) + random_lists(12, 8))[many::4]:
                self.check(one, many)

    def test_in_a_plain_way(self):
        for one in all_lists(2) + [List(3, ((0, 1), (2,)))]:
            found = healing_web(one, 1)
            if found is not None and found[0].size < 9:
                for rest in plain_rests(found[0]):
                    self.assertIn(plain_strength(found[0], rest), (1, 2, 3, None))

    def test_more_than_24_parts(self):
        sixes = List(6, tuple(all_lots(6)))
        for many in range(4):
            self.check(sixes, many)
            self.check(List(12, (tuple(range(12)),)), many)
        self.assertGreater(healing_web(sixes, 3)[0].size, 24)

    def test_no_number(self):
        wrong = no_numbers() + [-1, 4, 5, 10 ** 59, -(10 ** 59)]
        self.raises_for_all(NoNumber, healing_web, (List(2, ((0,), (1,))),), wrong)
        self.raises_for_all(NoNumber, healing_web, (List(2, ((0,),)),), wrong)


class Wrong(Raising, unittest.TestCase):
    def test_no_rest(self):
        for web in PROBES + (Web(1, ()), Web(4, ())):
            wrong = no_rests(web)
            self.raises_for_all(NoRest, strength, (web,), wrong)
            for function in (heals, harm, slip):
                self.raises_for_all(NoRest, function, (web,), wrong, (1,))
                self.raises_for_all(NoRest, function, (web,), wrong, (None,))
            self.raises_for_all(NoRest, is_harm, (web,), wrong, (1, ()))
            self.raises_for_all(NoRest, is_harm, (web,), wrong, (None, None))

    def test_no_number(self):
        for web in PROBES:
            rest = rests(web)[0]
            self.raises_for_all(NoNumber, heals, (web, rest), no_counts())
            self.raises_for_all(NoNumber, harm, (web, rest), no_counts())
            self.raises_for_all(NoNumber, is_harm, (web, rest), no_counts(), ((),))
            self.raises_for_all(NoNumber, is_harm, (web, rest), no_counts(), (None,))
            self.assertIs(heals(web, rest, 0), True)
            self.assertIs(is_harm(web, rest, 0, None), False)

    def test_no_part(self):
        for web in PROBES:
            for rest in rests(web):
                self.raises_for_all(NoPart, slip, (web, rest), no_parts(web.size) + list(rest))

    def test_weakest_too_many(self):
        self.assertEqual(self.raises(TooMany, weakest, TWOS).most, 2000)
        most = beside(beside(beside(beside(full(5), full(5)), full(5)), full(4)), beside(full(2), full(2)))
        self.assertEqual(weakest(most), (0, rests(most)[0]))
        more = beside(beside(full(3), full(23)), joined(full(24), full(5)))
        self.assertEqual(self.raises(TooMany, weakest, more).most, 2000)
        self.assertEqual(weakest(random_web(24, 5, 1))[0], 0)


if __name__ == "__main__":
    unittest.main()
