"""12.2: strangers."""

import unittest

from silencers.calls import called, changers, is_rest
from silencers.errors import BadCall, NoNumber, NoStand, TooMany
from silencers.rests import rests
from silencers.strangers import lazy, led, led_end
from silencers.webs import Web, copied, full, ring, row
from things import (
    Raising, all_lots, big_webs, no_lots, no_numbers, no_parts, plain_called, plain_rests, random_web, small_webs, things,
)

LATCH = Web(2, ((0, 1),))
FEW = [web for web in small_webs() if web.size < 6]
PROBES = (row(4), Web(1, ()), full(3), row(24), copied(row(4), 6))


class Own(Exception):
    """An error that is none of the package."""


def strangers(web):
    """Strangers of several kinds that tell a part of each stand."""
    size = web.size
    return [
        lambda stand: 0, lambda stand: size - 1, lambda stand: len(stand) % size, lambda stand: stand[0] if stand else 0,
        lambda stand: stand[-1] if stand else size - 1, lambda stand: sum(stand) * 7 % size,
        lambda stand: (changers(web, stand) or (0,))[0], lambda stand: (changers(web, stand) or (0,))[-1],
        lambda stand: ([part for part in range(size) if part not in stand] or [0])[0],
    ]


def plain_way(web, stand, stranger, many):
    """The stands behind no call, one call and so on of a stranger."""
    found = [stand]
    for _ in range(many):
        found.append(plain_called(web, found[-1], stranger(found[-1])))
    return found


class Asked:
    """A stranger that keeps what it was asked, and tells a thing that may be no part of some stands."""

    def __init__(self, told, wrong=(), instead=None):
        self.told, self.wrong, self.instead, self.stands = told, wrong, instead, []

    def __call__(self, stand):
        self.stands.append(stand)
        return self.instead if stand in self.wrong else self.told(stand)


class Led(Raising, unittest.TestCase):
    def test_led(self):
        for web in FEW[::3]:
            for stranger in strangers(web):
                for stand in all_lots(web.size)[::3]:
                    way = plain_way(web, stand, stranger, 12)
                    for many in (0, 1, 2, 3, 7, 12):
                        found = led(web, stand, stranger, many)
                        self.assertIsInstance(found, tuple)
                        self.assertEqual(found, way[many])

    def test_asked_of_each_stand_in_turn(self):
        web = ring(5)
        for many in (0, 1, 6):
            stranger = Asked(lambda stand: len(stand))
            led(web, (0, 1), stranger, many)
            self.assertEqual(stranger.stands, plain_way(web, (0, 1), lambda stand: len(stand), many)[:many])
            self.assertTrue(all(type(stand) is tuple for stand in stranger.stands))

    def test_many_calls(self):
        self.assertEqual(led(row(24), (), lambda stand: len(stand), 1000), led(row(24), (), lambda stand: len(stand), 999))
        first = led(full(24), tuple(range(24)), lambda stand: stand[0], 1000)
        self.assertEqual(first, (23,))

    def test_returned_webs(self):
        for web in big_webs()[:4]:
            size = web.size
            found = led(web, tuple(range(size)), lambda stand: size - 1, 3)
            self.assertEqual(found, called(web, tuple(range(size)), size - 1))

    def test_no_stand(self):
        for web in PROBES:
            for stranger in (lambda stand: 0, lambda stand: None):
                for many in (3, None, -1):
                    self.raises_for_all(NoStand, led, (web,), no_lots(web.size), (stranger, many))
                self.raises_for_all(NoStand, led_end, (web,), no_lots(web.size), (stranger,))

    def test_no_number(self):
        for web in PROBES:
            for stranger in (lambda stand: 0, lambda stand: None):
                wrong = no_numbers() + [-1, -2, 1001, 1002, 10 ** 59, -(10 ** 59)]
                self.raises_for_all(NoNumber, led, (web, (0,), stranger), wrong)

    def test_bad_call(self):
        web = ring(5)
        way = plain_way(web, (), lambda stand: 2 * len(stand), 3)
        self.assertEqual(len(set(way[:3])), 3)
        for at, stand in enumerate(way[:3]):
            for thing in no_parts(5):
                stranger = Asked(lambda stand: 2 * len(stand), (stand,), thing)
                self.assertEqual(led(web, (), stranger, at), way[at])
                for many in (at + 1, 1000):
                    error = self.raises(BadCall, led, web, (), stranger, many)
                    self.assertEqual((type(error.stand), error.stand), (tuple, stand))
                error = self.raises(BadCall, led_end, web, (), stranger)
                self.assertEqual((type(error.stand), error.stand), (tuple, stand))

    def test_bad_calls_of_returned_webs(self):
        for web in PROBES:
            for thing in no_parts(web.size):
                self.assertEqual(self.raises(BadCall, led, web, (0,), lambda stand: thing, 1).stand, (0,))
                self.assertEqual(led(web, (0,), lambda stand: thing, 0), (0,))

    def test_an_error_of_the_stranger_goes_on(self):
        def stranger(stand):
            raise Own()

        for function, behind in ((led, (1,)), (led_end, ())):
            with self.assertRaises(Own):
                function(row(3), (), stranger, *behind)
        with self.assertRaises(Own):
            lazy(row(3), stranger)
        self.assertEqual(led(row(3), (1,), stranger, 0), (1,))


class LedEnd(unittest.TestCase):
    def test_led_end(self):
        for web in FEW[::3]:
            for stranger in strangers(web):
                for stand in all_lots(web.size)[::3]:
                    way = plain_way(web, stand, stranger, 3 * web.size)
                    wanted = min((at, more - at) for at in range(len(way)) for more in range(at + 1, len(way))
                                 if way[at] == way[more])
                    found = led_end(web, stand, stranger)
                    self.assertIsInstance(found, tuple)
                    self.assertEqual(found, wanted)
                    lead, length = found
                    self.assertEqual(led(web, stand, stranger, lead), led(web, stand, stranger, lead + length))

    def test_known(self):
        self.assertEqual(led_end(LATCH, (0,), lambda stand: 0), (0, 1))
        self.assertEqual(led_end(LATCH, (), lambda stand: 1), (1, 1))
        self.assertEqual(led_end(full(24), tuple(range(24)), lambda stand: stand[0]), (23, 1))
        self.assertEqual(led_end(row(24), (), lambda stand: (changers(row(24), stand) or (0,))[-1]), (12, 1))
        self.assertEqual(led_end(Web(1, ()), (0,), lambda stand: 0), (0, 1))


class Lazy(Raising, unittest.TestCase):
    def test_lazy(self):
        for web in FEW:
            for stranger in strangers(web):
                found = lazy(web, stranger)
                wanted = [stand for stand in all_lots(web.size) if stand not in plain_rests(web)
                          and plain_called(web, stand, stranger(stand)) == stand]
                self.assertEqual(found, wanted[0] if wanted else None)
                if found is not None:
                    self.assertIsInstance(found, tuple)

    def test_one_that_is_never_lazy_leads_to_rests(self):
        for web in FEW + [ring(10), random_web(10, 4, 1)]:
            for stranger in strangers(web)[6:8]:
                self.assertIsNone(lazy(web, stranger))
                for stand in all_lots(web.size)[::5]:
                    self.assertIs(is_rest(web, led(web, stand, stranger, 2 * web.size)), True)

    def test_not_asked_of_rests(self):
        for web in (row(3), full(4), ring(5), random_web(6, 3, 2), Web(3, ())):
            stranger = Asked(lambda stand: 0, rests(web), "no part")
            lazy(web, stranger)
            self.assertEqual(sorted(set(stranger.stands)), [lot for lot in all_lots(web.size) if lot not in rests(web)])

    def test_bad_call_ahead_of_any_answer(self):
        web = row(3)
        for thing in no_parts(3):
            for stand in all_lots(3):
                stranger = Asked(lambda stand: 0, (stand,), thing)
                if stand in rests(web):
                    self.assertEqual(lazy(web, stranger), (0,))
                else:
                    self.assertEqual(self.raises(BadCall, lazy, web, stranger).stand, stand)
        several = Asked(lambda stand: 0, ((), (0, 1), (2,)), None)
        self.assertIn(self.raises(BadCall, lazy, web, several).stand, ((), (0, 1), (2,)))

    def test_too_many_ahead_of_all_else(self):
        for web in (row(11), Web(11, ()), row(24), copied(row(4), 6)):
            for stranger in (lambda stand: 0, lambda stand: None):
                asked = Asked(stranger)
                self.assertEqual(self.raises(TooMany, lazy, web, asked).most, 10)
                self.assertEqual(asked.stands, [])
        self.assertEqual(lazy(row(10), lambda stand: 0), (0,))
        self.raises(BadCall, lazy, row(10), lambda stand: 10)

    def test_things_told(self):
        for thing in things():
            if not isinstance(thing, int) or isinstance(thing, bool):
                self.assertEqual(self.raises(BadCall, lazy, LATCH, lambda stand: thing).stand in ((), (0, 1)), True)


if __name__ == "__main__":
    unittest.main()
