"""0.4, 0.5, 1.1, 1.2 and row, ring, full of 1.3: webs, changed, put together and made."""

import unittest
from itertools import permutations

from silencers.errors import BadWeb, NoLot, NoNames, NoNumber, NoPart
from silencers.webs import (
    Web, beside, copied, full, joined, kept, put_in, renamed, ring, row, tie, tied_to, untie,
)
from things import (
    Raising, all_lots, all_webs, big_webs, near, nested_list, nested_tuple, no_lots, no_numbers, no_parts,
    random_web, same_web, small_webs, things, webs_of_24,
)


def edge(a, b):
    return (min(a, b), max(a, b))


class Constructing(Raising, unittest.TestCase):
    def bad(self, part, size, ties):
        error = self.raises(BadWeb, Web, size, ties)
        self.assertEqual((type(error.part), error.part), (type(part), part))

    def test_right_webs(self):
        for size, ties in ((1, ()), (24, ()), (2, ((0, 1),)), (3, ((0, 1), (0, 2), (1, 2))), (24, ((22, 23),))):
            web = Web(size, ties)
            self.assertEqual((web.size, web.ties), (size, ties))
            self.assertIsInstance(web.ties, tuple)

    def test_wrong_sizes(self):
        for thing in no_numbers() + [0, -1, 25, 26, 10 ** 59]:
            for ties in ((), ((0, 1),), None, [], ((1, 0),)):
                self.bad("size", thing, ties)

    def test_ties_that_are_no_tuple(self):
        for thing in things() + [[], [(0, 1)], 0, 3]:
            if not isinstance(thing, tuple):
                self.bad("ties", 3, thing)

    def test_wrong_ties(self):
        wrong = [
            [0, 1], (1, 0), (1, 1), (0, 0), (0, 1, 2), (0,), (), (0, 4), (3, 4), (4, 5), (-1, 1), (0, 10 ** 59),
            (True, 2), (0, True), (False, True), ("0", "1"), "01", b"ab", ((0, 1), (0, 2)), {0: 1, 1: 2}, 1,
        ]
        for thing in wrong + [(0, thing) for thing in things()] + [(thing, 3) for thing in things()] + things():
            self.bad(0, 4, (thing,))
            self.bad(1, 4, ((0, 1), thing))
            self.bad(1, 4, ((0, 1), thing, (1, 2), thing))

    def test_ties_out_of_order(self):
        self.bad(1, 4, ((0, 1), (0, 1)))
        self.bad(1, 4, ((0, 2), (0, 1)))
        self.bad(2, 4, ((0, 2), (1, 2), (0, 3)))
        self.bad(2, 4, ((0, 1), (1, 2), (1, 2), (0, 0)))
        self.bad(1, 4, ((1, 2), (0, 3)))

    def test_deep_nesting(self):
        for deep in (nested_tuple(40), nested_tuple(38, (0, 1)), nested_list(40)):
            self.bad("size", deep, ())
            self.bad(0, 3, (deep,))
            self.bad(0, 3, ((deep, deep),))

    def test_equal(self):
        webs = [web for size in range(1, 4) for web in all_webs(size)]
        for one in webs:
            for other in webs:
                same = one.size == other.size and one.ties == other.ties
                self.assertIs(one == Web(other.size, other.ties), same)
                self.assertIs(one != other, not same)

    def test_equal_to_nothing_else(self):
        class Like:
            size = 2
            ties = ((0, 1),)

        for web in (Web(2, ((0, 1),)), Web(1, ())):
            for thing in things() + [(web.size, web.ties), [web], (web,), Like(), web.size, web.ties]:
                if not isinstance(thing, Web):
                    self.assertIs(web == thing, False)
                    self.assertIs(web != thing, True)

    def test_returned_webs_are_equal_to_constructed_ones(self):
        self.assertEqual(tie(Web(2, ()), 1, 0), Web(2, ((0, 1),)))
        self.assertEqual(Web(2, ((0, 1),)), tie(Web(2, ()), 1, 0))
        self.assertEqual(beside(row(24), row(24)), beside(row(24), row(24)))
        self.assertNotEqual(beside(row(24), row(24)), joined(row(24), row(24)))


class Ties(Raising, unittest.TestCase):
    def test_tied_to(self):
        for web in small_webs() + webs_of_24() + big_webs()[:4]:
            for part, others in near(web).items():
                found = tied_to(web, part)
                self.assertIsInstance(found, tuple)
                self.assertEqual(found, tuple(sorted(others)))

    def test_tie_and_untie(self):
        for web in small_webs() + webs_of_24()[:2] + [random_web(24, 3, 8)]:
            size, ties = web.size, web.ties
            for a in range(0, size, 1 if size < 9 else 5):
                for b in range(size):
                    if a != b:
                        same_web(self, tie(web, a, b), size, set(ties) | {edge(a, b)})
                        same_web(self, untie(web, a, b), size, set(ties) - {edge(a, b)})
            self.assertEqual((web.size, web.ties), (size, ties))

    def test_big_webs(self):
        for web in big_webs():
            last = web.size - 1
            same_web(self, tie(web, last, 0), web.size, set(web.ties) | {(0, last)})
            same_web(self, untie(web, *web.ties[-1]), web.size, web.ties[:-1])

    def test_wrong_parts(self):
        for web in (row(3), Web(1, ()), full(24), big_webs()[0]):
            wrong = no_parts(web.size)
            self.raises_for_all(NoPart, tied_to, (web,), wrong)
            for function in (tie, untie):
                self.raises_for_all(NoPart, function, (web,), wrong, (0,))
                self.raises_for_all(NoPart, function, (web, 0), wrong)
                self.raises_for_all(NoPart, function, (web, None), wrong)
                for part in range(web.size):
                    self.raises(NoPart, function, web, part, part)


class Changing(Raising, unittest.TestCase):
    def test_renamed(self):
        for web in small_webs():
            ways = list(permutations(range(web.size))) if web.size < 5 else [
                tuple(range(web.size)), tuple(reversed(range(web.size))), tuple(range(1, web.size)) + (0,)]
            for names in ways:
                same_web(self, renamed(web, names), web.size, [edge(names[a], names[b]) for a, b in web.ties])

    def test_renamed_leaves_the_web(self):
        web = row(4)
        self.assertEqual(renamed(web, (0, 1, 2, 3)), web)
        self.assertEqual(renamed(web, (1, 0, 2, 3)).ties, ((0, 1), (0, 2), (2, 3)))
        self.assertEqual(web, row(4))

    def test_renamed_big(self):
        for web in big_webs()[:5]:
            names = tuple(reversed(range(web.size)))
            same_web(self, renamed(web, names), web.size, [edge(names[a], names[b]) for a, b in web.ties])
            self.assertEqual(renamed(renamed(web, names), names), web)

    def test_no_names(self):
        wrong = [(0, 1), (0, 1, 2, 3), (0, 1, 1), (0, 1, 3), (1, 2, 3), (-1, 0, 1), [0, 1, 2], (0, 1, True), (), 3,
                 (False, 1, 2), ("0", "1", "2"), "012", range(3), ((0,), 1, 2), (0, [1], 2), (None, None, None)]
        self.raises_for_all(NoNames, renamed, (row(3),), things() + wrong)
        self.raises_for_all(NoNames, renamed, (Web(1, ()),), things() + [(), (1,), (0, 0), [0], 0])
        self.raises_for_all(NoNames, renamed, (row(2),), [(thing, 0) for thing in things()])
        self.raises_for_all(NoNames, renamed, (big_webs()[0],), things() + [tuple(range(24)), (0,) * 27])

    def test_kept(self):
        for web in small_webs() + [random_web(8, 5, seed) for seed in range(3)]:
            for lot in all_lots(web.size)[1:]:
                number = {part: at for at, part in enumerate(lot)}
                ties = [(number[a], number[b]) for a, b in web.ties if a in number and b in number]
                same_web(self, kept(web, lot), len(lot), ties)

    def test_kept_of_more_parts(self):
        self.assertEqual(kept(row(24), tuple(range(10, 24))), row(14))
        self.assertEqual(kept(full(24), (0, 5, 23)), full(3))
        for web in big_webs():
            self.assertEqual(kept(web, tuple(range(web.size))), web)
            self.assertEqual(kept(web, (web.size - 1,)), Web(1, ()))
            size = web.size - 1
            same_web(self, kept(web, tuple(range(size))), size, [pair for pair in web.ties if pair[1] < size])

    def test_kept_of_no_lot(self):
        for web in (row(3), Web(1, ()), big_webs()[0]):
            self.raises_for_all(NoLot, kept, (web,), no_lots(web.size) + [()])


class Together(Raising, unittest.TestCase):
    def pairs(self):
        webs = [Web(1, ()), row(2), row(3), full(3), ring(5), random_web(8, 5, 1), row(24), full(24), Web(24, ())]
        webs += big_webs()[:2]
        return [(one, other) for one in webs for other in webs]

    def test_beside(self):
        for one, other in self.pairs():
            ties = list(one.ties) + [(a + one.size, b + one.size) for a, b in other.ties]
            same_web(self, beside(one, other), one.size + other.size, ties)

    def test_joined(self):
        for one, other in self.pairs():
            ties = list(one.ties) + [(a + one.size, b + one.size) for a, b in other.ties]
            ties += [(a, one.size + b) for a in range(one.size) for b in range(other.size)]
            same_web(self, joined(one, other), one.size + other.size, ties)

    def test_put_in(self):
        for one, other in self.pairs():
            for part in {0, one.size // 2, one.size - 1}:
                places = {k: [k if k < part else k + other.size - 1] for k in range(one.size)}
                places[part] = list(range(part, part + other.size))
                ties = [(a + part, b + part) for a, b in other.ties]
                ties += [edge(x, y) for a, b in one.ties for x in places[a] for y in places[b]]
                same_web(self, put_in(one, part, other), one.size + other.size - 1, ties)

    def test_put_in_tells_the_numbers(self):
        self.assertEqual(put_in(row(3), 1, row(2)).ties, ((0, 1), (0, 2), (1, 2), (1, 3), (2, 3)))
        self.assertEqual(put_in(row(3), 0, Web(2, ())).ties, ((0, 2), (1, 2), (2, 3)))
        self.assertEqual(put_in(Web(1, ()), 0, ring(4)), ring(4))
        self.assertEqual(put_in(ring(4), 2, Web(1, ())), ring(4))

    def test_put_in_no_part(self):
        for web in (row(3), Web(1, ()), big_webs()[0]):
            self.raises_for_all(NoPart, put_in, (web,), no_parts(web.size), (row(2),))

    def test_copied(self):
        for web in [Web(1, ()), row(2), row(3), ring(5), random_web(8, 5, 2), full(24)] + big_webs()[:3]:
            for times in range(1, 7):
                ties = [(a * times + i, b * times + j) for a, b in web.ties for i in range(times) for j in range(times)]
                same_web(self, copied(web, times), web.size * times, ties)
            self.assertEqual(copied(web, 1), web)

    def test_copied_so_often(self):
        self.assertEqual(copied(row(2), 2).ties, ((0, 2), (0, 3), (1, 2), (1, 3)))
        for web in (row(3), Web(1, ()), big_webs()[0]):
            self.raises_for_all(NoNumber, copied, (web,), no_numbers() + [0, 7, -1, -6, 10 ** 59])

    def test_webs_stay_as_they_were(self):
        one, other = ring(5), row(3)
        for call in (beside, joined):
            call(one, other)
        put_in(one, 2, other)
        copied(one, 3)
        kept(one, (0, 2))
        tie(one, 0, 2)
        untie(one, 0, 1)
        self.assertEqual((one.size, one.ties), (5, ((0, 1), (0, 4), (1, 2), (2, 3), (3, 4))))
        self.assertEqual((other.size, other.ties), (3, ((0, 1), (1, 2))))


class Made(Raising, unittest.TestCase):
    def test_row_ring_full(self):
        for size in range(1, 25):
            steps = [(k, k + 1) for k in range(size - 1)]
            same_web(self, row(size), size, steps)
            same_web(self, ring(size), size, steps + ([(0, size - 1)] if size > 2 else []))
            same_web(self, full(size), size, [(a, b) for b in range(size) for a in range(b)])
            for make in (row, ring, full):
                self.assertEqual(make(size), Web(size, make(size).ties))

    def test_small_rings_are_rows(self):
        self.assertEqual(ring(1), Web(1, ()))
        self.assertEqual(ring(2), Web(2, ((0, 1),)))
        self.assertEqual(ring(3), full(3))

    def test_no_number(self):
        for make in (row, ring, full):
            self.raises_for_all(NoNumber, make, (), no_numbers() + [0, -1, 25, 26, 10 ** 59, -(10 ** 59)])


if __name__ == "__main__":
    unittest.main()
