"""9.1 to 9.3: logs, what fits them, what they bar, and the tenth fact."""

import unittest
from itertools import combinations, product
from random import Random

from silencers.calls import called_all, tells
from silencers.errors import NoLog, NoRow, NoStand, OtherSize, TooMany
from silencers.logs import barred, behind, choices, fits, same_log, stuck_call, web_of, wrong_call
from silencers.runs import Run
from silencers.webs import Web, beside, copied, full, ring, row
from things import (
    Raising, all_lots, all_logs, all_webs, big_webs, logged_stands, near, no_logs, no_lots, no_rows, plain_behind,
    plain_fits, plain_log, plain_told, random_logs, random_web, small_webs, webs_of_24,
)

LOGS = all_logs(1, 3) + all_logs(2, 4) + all_logs(3, 2) + all_logs(3, 3)[::5] + random_logs(3, 6, 60)
LOGS += random_logs(4, 3, 60) + random_logs(4, 7, 40) + random_logs(5, 5, 20) + random_logs(5, 12, 10)
WEBS = {size: all_webs(size) for size in range(1, 6)}
LONG = random_logs(12, 200, 20) + random_logs(12, 20, 20) + random_logs(9, 6, 10) + random_logs(7, 199, 4)
OF_ONE = (behind, barred, choices, web_of, stuck_call)


def plain_barred(log):
    """The barred ties by their meaning."""
    size, _, calls = log
    stands = logged_stands(log)
    return [(a, b) for a, b in combinations(range(size), 2)
            if any(told and (part == a and b in stand or part == b and a in stand)
                   for (part, told), stand in zip(calls, stands))]


def plain_choices(log):
    out, stands = plain_barred(log), logged_stands(log)
    return [(at, tuple(other for other in stands[at]
                       if other != part and (part, other) not in out and (other, part) not in out))
            for at, (part, told) in enumerate(log[2]) if not told]


class Fitting(unittest.TestCase):
    def test_fits_and_wrong_call(self):
        for log in LOGS[::3]:
            stands = logged_stands(log)
            for web in WEBS[log[0]]:
                wrong = [at for at, (part, told) in enumerate(log[2]) if plain_told(web, stands[at], part) != told]
                self.assertIs(fits(web, log), not wrong)
                self.assertEqual(wrong_call(web, log), wrong[0] if wrong else None)

    def test_what_a_web_tells_fits_it(self):
        for web in small_webs()[::3]:
            for stand in all_lots(web.size)[::7]:
                calls = [(5 * k + k // 2) % web.size for k in range(20)]
                log = plain_log(web, stand, calls)
                self.assertIs(fits(web, log), True)
                self.assertIsNone(wrong_call(web, log))
                self.assertEqual(behind(log), plain_behind(web, stand, calls))
                for at, (part, told) in enumerate(log[2]):
                    other = (log[0], stand, log[2][:at] + ((part, not told),) + log[2][at + 1:])
                    self.assertIs(fits(web, other), False)
                    self.assertEqual(wrong_call(web, other), at)

    def test_another_number_of_parts(self):
        for log in ((2, (), ()), (3, (0, 1), ((0, False),)), (12, (), ())):
            for web in (Web(1, ()), row(4), full(5), row(24), copied(row(4), 6), beside(row(12), row(12))):
                self.assertIs(fits(web, log), False)
        self.assertIs(fits(row(12), (12, (), ())), True)

    def test_behind(self):
        for log in LOGS + LONG:
            self.assertIsInstance(behind(log), tuple)
            self.assertEqual(behind(log), logged_stands(log)[-1])


class TheTenthFact(unittest.TestCase):
    def test_barred_and_choices(self):
        for log in LOGS + LONG:
            found = barred(log)
            self.assertIsInstance(found, list)
            self.assertEqual(found, plain_barred(log))
            found = choices(log)
            self.assertIsInstance(found, list)
            self.assertEqual(found, plain_choices(log))

    def test_web_of_and_stuck_call(self):
        for log in LOGS:
            fitting = [web for web in WEBS[log[0]] if plain_fits(web, log)]
            stuck = [at for at, lot in plain_choices(log) if not lot]
            self.assertEqual(stuck_call(log), stuck[0] if stuck else None)
            web = web_of(log)
            self.assertEqual(web is None, not fitting)
            self.assertEqual(web is None, stuck_call(log) is not None)
            if fitting:
                self.assertIsInstance(web, Web)
                self.assertIn(web, fitting)

    def test_the_fact(self):
        for log in LOGS[::7]:
            out, asked = plain_barred(log), plain_choices(log)
            for web in WEBS[log[0]]:
                right = not any(pair in out for pair in web.ties)
                right = right and all(near(web)[log[2][at][0]] & set(lot) for at, lot in asked)
                self.assertEqual(plain_fits(web, log), right)

    def test_long_logs(self):
        for log in LONG:
            web = web_of(log)
            self.assertEqual(web is None, stuck_call(log) is not None)
            if web is not None:
                self.assertTrue(plain_fits(web, log))
                self.assertIs(fits(web, log), True)
        self.assertTrue([log for log in LONG if web_of(log) is None])

    def test_known(self):
        self.assertEqual(barred((3, (0, 1), ((2, True), (0, True)))), [(0, 1), (0, 2), (1, 2)])
        self.assertEqual(barred((3, (0, 1), ((0, False), (2, True)))), [(1, 2)])
        self.assertEqual(barred((2, (0,), ((0, True),))), [])
        self.assertEqual(choices((3, (0, 1), ((0, False), (2, True), (1, False)))), [(0, (1,)), (2, ())])
        self.assertEqual(stuck_call((3, (0, 1), ((0, False), (2, True), (1, False)))), 2)
        self.assertEqual(stuck_call((2, (0,), ((0, False),))), 0)
        self.assertEqual(stuck_call((2, (0, 1), ((0, False), (1, False)))), 1)
        # What is barred later counts for a call ahead of it, too.
        self.assertEqual(stuck_call((2, (1,), ((0, False), (0, True)))), 0)
        self.assertEqual(choices((2, (1,), ((0, False), (0, True)))), [(0, ())])
        self.assertEqual(web_of((1, (0,), ((0, True),))), Web(1, ()))
        self.assertIsNone(web_of((1, (), ((0, False),))))

    def test_new_lists(self):
        log = (3, (0, 1), ((0, False), (2, True)))
        for function in (barred, choices):
            found = function(log)
            self.assertIsNot(function(log), found)
            found.clear()
            self.assertTrue(function(log))
        self.assertEqual(log, (3, (0, 1), ((0, False), (2, True))))


class SameLog(Raising, unittest.TestCase):
    def test_all_short_rows(self):
        for web in all_webs(3) + [ring(4), random_web(5, 5, 1), Web(1, ())]:
            for stand in all_lots(web.size):
                for calls in [calls for many in range(4) for calls in product(range(web.size), repeat=many)][::3]:
                    log = same_log(web, stand, calls)
                    self.assertIsInstance(log, tuple)
                    self.assertEqual(log, plain_log(web, stand, calls))
                    self.assertIs(type(log[2]), tuple)
                    self.assertTrue(all(type(call) is tuple and type(call[1]) is bool for call in log[2]))
                    self.assertEqual(same_log(web, stand, list(calls)), log)
                    self.assertIs(fits(web, log), True)

    def test_with_runs_and_calls(self):
        luck = Random(3)
        for web in (row(12), ring(12), full(12), random_web(12, 3, 1), copied(row(4), 3), beside(row(6), full(6))):
            calls = [luck.randrange(12) for _ in range(200)]
            log = same_log(web, (0, 3, 11), calls)
            run = Run(web, (0, 3, 11))
            self.assertEqual([run.call(part) for part in calls], [told for _, told in log[2]])
            self.assertEqual(tuple(run.log()), log[2])
            self.assertEqual(behind(log), called_all(web, (0, 3, 11), calls))
            self.assertEqual(behind(log), run.stand())
            self.assertIs(fits(web, log), True)
            self.assertEqual(tells(web, (0, 3, 11), calls[0]), log[2][0][1])

    def test_a_list_is_not_changed(self):
        calls = [0, 1, 0]
        self.assertEqual(same_log(row(2), (), calls), (2, (), ((0, True), (1, False), (0, True))))
        self.assertEqual(calls, [0, 1, 0])

    def test_errors(self):
        for web in (row(3), Web(1, ()), row(13), row(24), copied(row(4), 6)):
            self.raises_for_all(NoStand, same_log, (web,), no_lots(web.size), ([0],))
            self.raises_for_all(NoStand, same_log, (web,), no_lots(web.size), (None,))
            self.raises_for_all(NoRow, same_log, (web, (0,)), no_rows(web.size))

    def test_too_many(self):
        for calls in ((0,) * 201, [0] * 201, [0, 1] * 500):
            for web in (row(12), row(13), copied(row(4), 6)):
                self.assertEqual(self.raises(TooMany, same_log, web, (), calls).most, 200)
        self.assertEqual(len(same_log(row(12), (), [0, 11] * 100)[2]), 200)
        for web in webs_of_24() + big_webs() + [row(13), Web(13, ())]:
            for calls in ((), [0], (0,) * 200):
                self.assertEqual(self.raises(TooMany, same_log, web, (), calls).most, 12)


class Errors(Raising, unittest.TestCase):
    def test_no_log(self):
        for function in OF_ONE:
            self.raises_for_all(NoLog, function, (), no_logs())
        for web in (row(2), row(3), row(24)):
            for function in (fits, wrong_call):
                self.raises_for_all(NoLog, function, (web,), no_logs())

    def test_the_greatest_and_the_least_logs(self):
        for log in ((1, (), ()), (1, (0,), ()), (12, tuple(range(12)), ((11, False),)), (2, (), ((0, True),) * 200)):
            for function in OF_ONE:
                function(log)
            self.assertIn(fits(row(log[0]), log), (True, False))

    def test_other_size(self):
        for log in ((2, (), ()), (3, (0, 1), ((0, False),)), (12, (), ())):
            for web in (Web(1, ()), row(4), row(24), copied(row(4), 6), beside(row(12), row(12))):
                self.raises(OtherSize, wrong_call, web, log)


if __name__ == "__main__":
    unittest.main()
