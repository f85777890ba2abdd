"""10.4: parts called at once, restless lots, and the twelfth fact."""

import unittest
from itertools import product

from silencers.calls import called, changers
from silencers.errors import NoLot, NoStand
from silencers.groups import at_once_end, called_at_once, is_restless, restless
from silencers.webs import Web, beside, copied, full, ring, row
from things import (
    Raising, all_lots, all_webs, big_webs, near, no_lots, plain_told, random_web, small_webs, things, webs_of_24,
)

LATCH = Web(2, ((0, 1),))
FEW = [web for web in small_webs() if web.size < 5] + [ring(5), random_web(5, 4, 1), random_web(5, 6, 2)]
PROBES = (row(4), Web(1, ()), full(3), row(24), copied(row(4), 6))


def plain_at_once(web, stand, lot):
    """The stand behind such a call by its meaning."""
    told = {part: plain_told(web, stand, part) for part in lot}
    return tuple(part for part in range(web.size) if told.get(part, part in stand))


def plain_end(web, stand, lot):
    """The least (lead, length), the stands behind so many calls being written down."""
    found = [stand]
    while found[-1] not in found[:-1]:
        found.append(plain_at_once(web, found[-1], lot))
    return (found.index(found[-1]), len(found) - 1 - found.index(found[-1]))


def cases():
    for web in FEW:
        for stand, lot in list(product(all_lots(web.size), repeat=2))[::1 if web.size < 4 else 5]:
            yield web, stand, lot


class AtOnce(unittest.TestCase):
    def test_called_at_once(self):
        for web, stand, lot in cases():
            found = called_at_once(web, stand, lot)
            self.assertIsInstance(found, tuple)
            self.assertEqual(found, plain_at_once(web, stand, lot))

    def test_one_part_is_a_call(self):
        for web in FEW[::4]:
            for stand in all_lots(web.size):
                self.assertEqual(called_at_once(web, stand, ()), stand)
                for part in range(web.size):
                    self.assertEqual(called_at_once(web, stand, (part,)), called(web, stand, part))

    def test_all_parts(self):
        for web in FEW + webs_of_24() + big_webs():
            for stand in ((), tuple(range(web.size)), tuple(range(0, web.size, 3))):
                every = tuple(range(web.size))
                found = called_at_once(web, stand, every)
                self.assertEqual(found, tuple(part for part in every if plain_told(web, stand, part)))
                self.assertEqual(set(found) ^ set(stand), set(changers(web, stand)))

    def test_at_once_end(self):
        for web, stand, lot in cases():
            found = at_once_end(web, stand, lot)
            self.assertIsInstance(found, tuple)
            self.assertEqual(found, plain_end(web, stand, lot))

    def test_at_once_end_of_more_parts(self):
        for web in webs_of_24() + big_webs()[:4]:
            for lot in (tuple(range(web.size)), tuple(range(0, web.size, 2)), (0, 1), (5,), ()):
                for stand in ((), (0, 1, 2), tuple(range(web.size))):
                    self.assertEqual(at_once_end(web, stand, lot), plain_end(web, stand, lot))

    def test_known(self):
        self.assertEqual(called_at_once(LATCH, (), (0, 1)), (0, 1))
        self.assertEqual(called_at_once(row(3), (0, 2), (0, 1)), (0, 2))
        self.assertEqual(at_once_end(LATCH, (), (0, 1)), (0, 2))
        self.assertEqual(at_once_end(LATCH, (0,), (0, 1)), (0, 1))
        self.assertEqual(at_once_end(LATCH, (), (0,)), (1, 1))
        self.assertEqual(at_once_end(row(4), (0, 1), (0, 1, 2, 3)), (1, 2))
        self.assertEqual(at_once_end(full(24), (3,), ()), (0, 1))
        self.assertEqual(at_once_end(Web(24, ()), (), tuple(range(24))), (1, 1))


class Restless(unittest.TestCase):
    def test_is_restless(self):
        for web, stand, lot in cases():
            self.assertIs(is_restless(web, (stand, lot)), plain_end(web, stand, lot)[1] > 1)

    def test_restless_and_the_twelfth_fact(self):
        for web in small_webs() + webs_of_24() + big_webs():
            found = restless(web)
            self.assertEqual(found is None, not web.ties)
            if found is not None:
                self.assertIsInstance(found, tuple)
                stand, lot = found
                self.assertIs(is_restless(web, found), True)
                self.assertGreater(plain_end(web, stand, lot)[1], 1)
        for web in FEW:
            if not web.ties:
                for pair in product(all_lots(web.size), repeat=2):
                    self.assertIs(is_restless(web, pair), False)

    def test_never_alone(self):
        """A lot of parts none of which are tied comes to a stand that it does not change."""
        for web, stand, lot in cases():
            if not any(near(web)[part] & set(lot) for part in lot):
                self.assertIs(is_restless(web, (stand, lot)), False)

    def test_what_is_not_restless(self):
        self.assertIs(is_restless(LATCH, ((), (0, 1))), True)
        wrong = things() + no_lots(2) + [
            (), ((), (0, 1), ()), [(), (0, 1)], ([], (0, 1)), ((), [0, 1]), ((), (0, True)), ((), (False, 1)), ((),),
            ((), (1, 0)), ((), (0, 2)), ((2,), (0, 1)), ((0, 0), (0, 1)), (None, (0, 1)), ((), None), (0, 1), "restless",
        ]
        wrong += [(thing, (0, 1)) for thing in no_lots(2)] + [((), thing) for thing in no_lots(2)]
        for thing in wrong:
            self.assertIs(is_restless(LATCH, thing), False)

    def test_returned_webs(self):
        web = beside(row(24), copied(ring(3), 6))
        found = restless(web)
        self.assertIs(is_restless(web, found), True)
        self.assertIs(is_restless(web, ((), tuple(range(42)))), True)
        self.assertEqual(web, beside(row(24), copied(ring(3), 6)))


class Errors(Raising, unittest.TestCase):
    def test_no_stand(self):
        for web in PROBES:
            for function in (called_at_once, at_once_end):
                for lot in ((0,), None):
                    self.raises_for_all(NoStand, function, (web,), no_lots(web.size), (lot,))

    def test_no_lot(self):
        for web in PROBES:
            for function in (called_at_once, at_once_end):
                self.raises_for_all(NoLot, function, (web, (0,)), no_lots(web.size))

    def test_all_lots_are_taken(self):
        for web in all_webs(3)[::3]:
            for stand, lot in product(all_lots(3), repeat=2):
                self.assertEqual(len(at_once_end(web, stand, lot)), 2)


if __name__ == "__main__":
    unittest.main()
