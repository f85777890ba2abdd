"""2.1: tells, called, called_all, changers, is_rest, and the first fact."""

import unittest

from silencers.calls import called, called_all, changers, is_rest, tells
from silencers.errors import NoPart, NoRow, NoStand
from silencers.webs import Web, full, row
from things import Raising, all_lots, big_webs, is_free, near, no_lots, no_parts, plain_rests, small_webs, things
from things import nested_list, webs_of_24

FEW = [web for web in small_webs() if web.size < 7]


def plain_tells(web, stand, part):
    return not near(web)[part] & set(stand)


def plain_called(web, stand, part):
    others = set(stand) - {part}
    return tuple(sorted(others | {part} if plain_tells(web, stand, part) else others))


def some_stands(web):
    size = web.size
    return [(), tuple(range(size)), tuple(range(0, size, 2)), tuple(range(1, size, 3)), (size - 1,)]


class Calls(unittest.TestCase):
    def check(self, web, stand):
        for part in range(web.size):
            self.assertIs(tells(web, stand, part), plain_tells(web, stand, part))
            found = called(web, stand, part)
            self.assertIsInstance(found, tuple)
            self.assertEqual(found, plain_called(web, stand, part))

    def test_small_webs(self):
        for web in FEW:
            for stand in all_lots(web.size):
                self.check(web, stand)

    def test_more_parts(self):
        for web in webs_of_24()[:5] + big_webs()[:2]:
            for stand in some_stands(web)[:3]:
                self.check(web, stand)

    def test_a_part_of_the_stand_does_not_silence_itself(self):
        self.assertIs(tells(Web(1, ()), (0,), 0), True)
        self.assertIs(tells(row(2), (0,), 0), True)
        self.assertIs(tells(row(2), (0,), 1), False)

    def test_called_all(self):
        for web in FEW + webs_of_24()[:5] + big_webs():
            rows = [(), (0,), tuple(range(web.size)), tuple(reversed(range(web.size))), (0, 0, web.size - 1, 0)]
            for stand in some_stands(web):
                for calls in rows[:5 if web.size < 25 else 2]:
                    wanted = stand
                    for part in calls:
                        wanted = plain_called(web, wanted, part)
                    self.assertEqual(called_all(web, stand, calls), wanted)
                    self.assertEqual(called_all(web, stand, list(calls)), wanted)

    def test_long_rows(self):
        web = row(4)
        calls = [0, 1, 2, 3] * 250
        self.assertEqual(called_all(web, (), calls), (0, 2))
        self.assertEqual(called_all(web, (), tuple(calls)), (0, 2))
        self.assertEqual(len(calls), 1000)

    def test_arguments_stay(self):
        calls = [0, 1]
        web = row(3)
        called_all(web, (0, 1), calls)
        self.assertEqual((calls, web), ([0, 1], row(3)))

    def test_changers(self):
        for web in FEW + webs_of_24() + big_webs()[:4]:
            for stand in all_lots(web.size) if web.size < 7 else some_stands(web):
                tied = near(web)
                wanted = tuple(part for part in range(web.size) if (part in stand) == bool(tied[part] & set(stand)))
                found = changers(web, stand)
                self.assertIsInstance(found, tuple)
                self.assertEqual(found, wanted)

    def test_big_webs_lead_to_rests(self):
        for web in big_webs():
            end = called_all(web, (), tuple(range(web.size)))
            self.assertIs(is_rest(web, end), True)
            self.assertEqual(changers(web, end), ())


class Rests(unittest.TestCase):
    def test_first_fact(self):
        for web in FEW:
            for lot in all_lots(web.size):
                more = [tuple(sorted(lot + (part,))) for part in range(web.size) if part not in lot]
                wanted = is_free(web, lot) and not any(is_free(web, other) for other in more)
                self.assertIs(is_rest(web, lot), wanted)
                self.assertIs(changers(web, lot) == (), wanted)

    def test_against_the_meaning(self):
        for web in small_webs():
            self.assertEqual([lot for lot in all_lots(web.size) if is_rest(web, lot)], plain_rests(web))

    def test_anything_at_all(self):
        for web in (row(3), Web(1, ()), full(24), big_webs()[0]):
            for thing in no_lots(web.size):
                self.assertIs(is_rest(web, thing), False)
        self.assertIs(is_rest(row(3), [0, 2]), False)
        self.assertIs(is_rest(row(3), (2, 0)), False)
        self.assertIs(is_rest(row(3), (0, 0, 2)), False)
        self.assertIs(is_rest(row(3), (0, 2)), True)
        self.assertIs(is_rest(row(3), ()), False)


class Wrong(Raising, unittest.TestCase):
    def test_no_stand(self):
        for web in (row(3), Web(1, ()), big_webs()[0]):
            wrong = no_lots(web.size)
            for function in (tells, called):
                self.raises_for_all(NoStand, function, (web,), wrong, (0,))
                self.raises_for_all(NoStand, function, (web,), wrong, (None,))
            self.raises_for_all(NoStand, called_all, (web,), wrong, ((),))
            self.raises_for_all(NoStand, called_all, (web,), wrong, (None,))
            self.raises_for_all(NoStand, changers, (web,), wrong)

    def test_no_part(self):
        for web in (row(3), Web(1, ()), big_webs()[0]):
            for function in (tells, called):
                self.raises_for_all(NoPart, function, (web, (0,)), no_parts(web.size))

    def test_no_row(self):
        web = row(3)
        items = [[thing] for thing in things() + [3, -1]] + [(0, thing) for thing in things() + [3, -1]]
        wrong = items + [(0,) * 1001, [0] * 1001, [3], (3,), [-1], "01", "", b"", b"ab", range(2), {}, {0: 1}, 0,
                         None, True, len, row(2), (True,), [False], ((0,),), [[0]], nested_list(40), iter([0])]
        self.raises_for_all(NoRow, called_all, (web, ()), wrong)
        self.raises_for_all(NoRow, called_all, (big_webs()[0], ()), [[27], (0,) * 1001, None])
        self.assertEqual(called_all(web, (), (0,) * 1000), (0,))


if __name__ == "__main__":
    unittest.main()
