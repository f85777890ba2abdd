"""9.3, 9.4: what all webs that fit a log have, what some have, the fewest ties, and verdicts."""

import unittest

from silencers.calls import tells
from silencers.errors import NoLog, NoPart, NoWeb
from silencers.logs import barred, behind, fits, same_log, stuck_call, web_of
from silencers.sparse import fewest_ties, most_ties, open_ties, sparse_web, sure_ties, verdict
from silencers.webs import Web, full, ring, row
from things import (
    Raising, all_logs, all_webs, logged_stands, no_logs, no_parts, plain_fits, plain_told, random_logs, random_web,
    same_web, things,
)

LOGS = all_logs(1, 3) + all_logs(2, 4) + all_logs(3, 2) + all_logs(3, 3)[::3] + random_logs(3, 6, 60)
LOGS += random_logs(4, 3, 80) + random_logs(4, 7, 60) + random_logs(5, 5, 30) + random_logs(5, 12, 20)
WEBS = {size: all_webs(size) for size in range(1, 6)}
LONG = random_logs(12, 200, 20) + random_logs(12, 20, 20) + random_logs(9, 6, 10) + random_logs(12, 7, 20)
OF_ONE = (sure_ties, open_ties, most_ties, fewest_ties, sparse_web)
NONE_FITS = ((1, (), ((0, False),)), (2, (0,), ((0, False),)), (3, (0, 1), ((0, False), (2, True), (1, False))))


class SmallLogs(Raising, unittest.TestCase):
    @classmethod
    def setUpClass(cls):
        cls.cases = [(log, [web for web in WEBS[log[0]] if plain_fits(web, log)]) for log in LOGS]

    def fitting(self):
        return [case for case in self.cases if case[1]]

    def test_example(self):
        self.assertEqual((sure_ties((2, (), ((0, True), (1, False)))), verdict((2, (), ((0, True),)), 1)),
                         ([(0, 1)], "open"))

    def test_sure_and_open_ties(self):
        for log, webs in self.fitting():
            sure = sorted(set(webs[0].ties).intersection(*[web.ties for web in webs]))
            some = set().union(*[web.ties for web in webs])
            self.assertIsInstance(sure_ties(log), list)
            self.assertEqual(sure_ties(log), sure)
            self.assertIsInstance(open_ties(log), list)
            self.assertEqual(open_ties(log), sorted(some - set(sure)))

    def test_most_ties(self):
        for log, webs in self.fitting():
            most = max(len(web.ties) for web in webs)
            wanted = [web for web in webs if len(web.ties) == most]
            self.assertEqual(len(wanted), 1)
            same_web(self, most_ties(log), log[0], wanted[0].ties)
            self.assertEqual(most_ties(log), wanted[0])

    def test_fewest_ties(self):
        for log, webs in self.fitting():
            few = min(len(web.ties) for web in webs)
            self.assertEqual(fewest_ties(log), few)
            self.assertIn(sparse_web(log), webs)
            same_web(self, sparse_web(log), log[0], sparse_web(log).ties)
            self.assertEqual(len(sparse_web(log).ties), few)

    def test_verdict(self):
        for log, webs in self.fitting():
            stand = logged_stands(log)[-1]
            for part in range(log[0]):
                told = {plain_told(web, stand, part) for web in webs}
                self.assertEqual(verdict(log, part), "open" if len(told) == 2 else "yes" if True in told else "no")

    def test_no_web(self):
        none = [log for log, webs in self.cases if not webs]
        self.assertGreater(len(none), 100)
        for log in none:
            for function in OF_ONE:
                self.raises(NoWeb, function, log)
            self.raises(NoWeb, verdict, log, 0)


class LongLogs(Raising, unittest.TestCase):
    def test_what_fits_together(self):
        found = 0
        for log in LONG:
            if stuck_call(log) is not None:
                for function in OF_ONE:
                    self.raises(NoWeb, function, log)
                self.raises(NoWeb, verdict, log, log[0] - 1)
                continue
            found += 1
            sure, loose, most, few = sure_ties(log), open_ties(log), most_ties(log), sparse_web(log)
            self.assertEqual(sorted(sure + loose), list(most.ties))
            self.assertEqual(sorted(sure + loose + barred(log)), list(full(log[0]).ties))
            self.assertTrue(fits(most, log) and fits(few, log) and fits(web_of(log), log))
            self.assertTrue(set(sure) <= set(few.ties) <= set(most.ties))
            self.assertEqual(len(few.ties), fewest_ties(log))
            for pair in loose:
                self.assertTrue(fits(Web(log[0], tuple(tie for tie in most.ties if tie != pair)), log))
            for pair in sure:
                self.assertFalse(fits(Web(log[0], tuple(tie for tie in most.ties if tie != pair)), log))
            for pair in few.ties:
                self.assertFalse(fits(Web(log[0], tuple(tie for tie in few.ties if tie != pair)), log))
            self.check_verdicts(log, most, few)
        self.assertGreater(found, 20)

    def check_verdicts(self, log, most, few):
        stand = behind(log)
        for part in range(log[0]):
            told = verdict(log, part)
            self.assertEqual(told == "yes", tells(most, stand, part))
            bare = Web(log[0], tuple(pair for pair in most.ties if part not in pair
                                     or not set(pair) - {part} & set(stand)))
            self.assertEqual(told == "no", not fits(bare, log))
            if told != "open":
                self.assertEqual(told == "yes", tells(few, stand, part))

    def test_what_was_told_in_a_web(self):
        for web in (row(12), ring(12), full(12), random_web(12, 3, 4), random_web(11, 6, 2), Web(12, ())):
            for many in (0, 1, 5, 30, 200):
                log = same_log(web, (0, 2, 5, 6), [(7 * k + k * k // 5) % web.size for k in range(many)])
                self.assertTrue(set(sure_ties(log)) <= set(web.ties) <= set(most_ties(log).ties))
                self.assertLessEqual(fewest_ties(log), len(web.ties))
                for part in range(web.size):
                    told = "yes" if tells(web, behind(log), part) else "no"
                    self.assertIn(verdict(log, part), (told, "open"))

    def test_known(self):
        star = (6, (1, 2, 3, 4, 5), ((0, False),))
        self.assertEqual((sure_ties(star), fewest_ties(star), len(most_ties(star).ties)), ([], 1, 15))
        self.assertEqual([verdict(star, part) for part in range(6)], ["no"] + ["open"] * 5)
        self.assertEqual(verdict((2, (0,), ((1, False),)), 1), "no")
        self.assertEqual(verdict((2, (0,), ((1, False),)), 0), "yes")
        self.assertEqual(verdict((1, (), ()), 0), "yes")
        self.assertEqual(verdict((3, (0, 1), ((2, False),)), 2), "no")
        # One tie is enough for two calls, one of each of its parts.
        both = (4, (0, 1, 2, 3), ((0, False), (1, True), (0, True)))
        self.assertRaises(NoWeb, fewest_ties, both)
        pairs = (4, (0, 1, 2, 3), ((0, False), (2, False)))
        self.assertEqual(fewest_ties(pairs), 2)
        self.assertEqual(fewest_ties((4, (0, 1, 2, 3), ((0, False), (0, False), (1, False)))), 2)
        self.assertEqual(fewest_ties((12, (), ())), 0)
        self.assertEqual(sparse_web((12, (), ())), Web(12, ()))
        self.assertEqual(most_ties((12, (), ())), full(12))

    def test_new_lists(self):
        log = (3, (0, 1), ((0, False),))
        for function in (sure_ties, open_ties):
            found = function(log)
            self.assertIsNot(function(log), found)
            found.clear()
            self.assertTrue(function(log))
        self.assertEqual(log, (3, (0, 1), ((0, False),)))


class Errors(Raising, unittest.TestCase):
    def test_no_log(self):
        for function in OF_ONE:
            self.raises_for_all(NoLog, function, (), no_logs())
        for part in (0, None, 2, -1):
            self.raises_for_all(NoLog, verdict, (), no_logs(), (part,))

    def test_no_part(self):
        for log in ((2, (), ()), (1, (0,), ()), (12, (), ((11, True),))) + NONE_FITS:
            self.raises_for_all(NoPart, verdict, (log,), no_parts(log[0]))
            self.raises_for_all(NoPart, verdict, (log,), [thing for thing in things() if thing not in (0, 1)])

    def test_no_web(self):
        for log in NONE_FITS:
            for function in OF_ONE:
                self.raises(NoWeb, function, log)
            for part in range(log[0]):
                self.raises(NoWeb, verdict, log, part)


if __name__ == "__main__":
    unittest.main()
