"""2.2: Run."""

import unittest

from silencers.calls import called
from silencers.errors import NoNumber, NoPart, NoStand, WebError
from silencers.runs import Run
from silencers.webs import Web, full, ring, row
from things import Raising, big_webs, near, no_lots, no_numbers, no_parts, random_web, things


class Own(Exception):
    """An error that is none of the package."""


def state(run):
    return run.stand(), run.log(), run.changes()


def led(web, stand, calls):
    run = Run(web, stand)
    for part in calls:
        run.call(part)
    return run


def plain_state(web, stand, calls):
    """The state behind these calls, worked out plainly."""
    now, log, changes = set(stand), [], 0
    tied = near(web)
    for part in calls:
        told = not tied[part] & now
        log.append((part, told))
        changes += told != (part in now)
        now = now | {part} if told else now - {part}
    return tuple(sorted(now)), log, changes


class Calling(Raising, unittest.TestCase):
    def test_calls(self):
        for web in (Web(1, ()), row(2), row(4), ring(5), full(4), random_web(8, 4, 3), row(24), big_webs()[0]):
            size = web.size
            for stand in ((), tuple(range(size)), (size - 1,)):
                calls = [(7 * k + k // 3) % size for k in range(30)]
                run = Run(web, stand)
                self.assertEqual(state(run), (stand, [], 0))
                for at, part in enumerate(calls):
                    wanted = plain_state(web, stand, calls[:at + 1])
                    told = run.call(part)
                    self.assertIs(told, wanted[1][-1][1])
                    self.assertEqual(state(run), wanted)

    def test_kinds_of_values(self):
        run = led(row(3), (0,), (1, 0, 2))
        self.assertIsInstance(run.stand(), tuple)
        self.assertIsInstance(run.log(), list)
        self.assertEqual(run.log(), [(1, False), (0, True), (2, True)])
        self.assertTrue(all(isinstance(pair, tuple) and isinstance(pair[1], bool) for pair in run.log()))
        self.assertEqual((type(run.changes()), run.changes()), (int, 1))

    def test_calls_that_change_nothing(self):
        run = led(row(2), (0,), (0, 1, 0, 1))
        self.assertEqual(state(run), ((0,), [(0, True), (1, False), (0, True), (1, False)], 0))

    def test_a_spoiled_log_changes_nothing(self):
        run = led(row(3), (), (0, 1))
        run.log().append("spoiled")
        run.log().clear()
        self.assertIsNot(run.log(), run.log())
        self.assertEqual(run.log(), [(0, True), (1, False)])
        run.back(2)
        self.assertEqual(state(run), ((), [], 0))

    def test_no_stand(self):
        for web in (row(3), Web(1, ()), big_webs()[0]):
            self.raises_for_all(NoStand, Run, (web,), no_lots(web.size))

    def test_no_part_changes_nothing(self):
        for web in (row(3), big_webs()[0]):
            run = led(web, (0, 1), (0, 2))
            before = state(run)
            self.raises_for_all(NoPart, run.call, (), no_parts(web.size))
            self.assertEqual(state(run), before)

    def test_many_calls(self):
        run = led(row(2), (), [0, 1] * 2000)
        self.assertEqual(len(run.log()), 4000)
        run.back(4000)
        self.assertEqual(state(run), ((), [], 0))

    def test_equal_to_nothing_else(self):
        run = Run(row(2), ())
        for thing in things() + [(), Run(row(3), ())]:
            if not isinstance(thing, Run):
                self.assertIs(run == thing, False)


class Back(Raising, unittest.TestCase):
    def test_back(self):
        web = random_web(6, 5, 4)
        calls = [0, 3, 3, 5, 1, 2, 0, 4]
        for many in range(1, len(calls) + 1):
            run = led(web, (0, 2, 5), calls)
            self.assertIsNone(run.back(many))
            self.assertEqual(state(run), plain_state(web, (0, 2, 5), calls[:-many]))
            run.call(1)
            self.assertEqual(state(run), plain_state(web, (0, 2, 5), calls[:-many] + [1]))

    def test_back_and_back(self):
        run = led(row(4), (1,), (0, 1, 2, 3))
        run.back(1)
        run.back(2)
        self.assertEqual(state(run), plain_state(row(4), (1,), (0,)))
        run.back(1)
        self.assertEqual(state(run), ((1,), [], 0))

    def test_no_number(self):
        run = led(row(4), (0, 1), (0, 1, 3))
        before = state(run)
        self.raises_for_all(NoNumber, run.back, (), no_numbers() + [0, -1, 4, 5, 10 ** 59, -(10 ** 59)])
        self.assertEqual(state(run), before)
        run.back(3)
        self.raises_for_all(NoNumber, run.back, (), [0, 1, -1, 3, True, None])
        self.assertEqual(state(run), ((0, 1), [], 0))
        self.raises(NoNumber, Run(row(2), ()).back, 1)


class Copies(Raising, unittest.TestCase):
    def test_copies_go_on_apart(self):
        web = ring(5)
        run = led(web, (0, 1), (0, 2))
        other = run.copy()
        self.assertIsInstance(other, Run)
        self.assertIsNot(other, run)
        self.assertEqual(state(other), state(run))
        run.call(4)
        self.assertEqual(state(other), plain_state(web, (0, 1), (0, 2)))
        other.call(1)
        other.call(3)
        self.assertEqual(state(other), plain_state(web, (0, 1), (0, 2, 1, 3)))
        self.assertEqual(state(run), plain_state(web, (0, 1), (0, 2, 4)))

    def test_copies_can_be_taken_back_likewise(self):
        web = ring(5)
        run = led(web, (0, 1), (0, 2, 4))
        other = run.copy()
        other.back(3)
        self.assertEqual(state(other), ((0, 1), [], 0))
        self.raises(NoNumber, other.back, 1)
        self.assertEqual(state(run), plain_state(web, (0, 1), (0, 2, 4)))
        run.back(2)
        self.assertEqual(state(run), plain_state(web, (0, 1), (0,)))

    def test_a_copy_of_a_copy(self):
        run = led(big_webs()[0], (3, 26), (0, 25))
        last = run.copy().copy()
        self.assertEqual(state(last), state(run))
        self.raises(NoPart, last.call, 27)
        last.back(2)
        self.assertEqual(last.stand(), (3, 26))


class Trying(Raising, unittest.TestCase):
    def setUp(self):
        self.run_ = led(row(4), (0, 1), (1, 3))
        self.before = state(self.run_)

    def put_back(self):
        """All is as it was, and can still be taken back."""
        self.assertEqual(state(self.run_), self.before)
        other = self.run_.copy()
        other.back(2)
        self.assertEqual(state(other), ((0, 1), [], 0))
        self.raises(NoNumber, other.back, 1)

    def test_returns_what_the_action_returned(self):
        thing = [1, (2, [3])]
        self.assertIs(self.run_.trying(lambda run: thing), thing)
        self.assertIsNone(self.run_.trying(lambda run: None))
        self.put_back()

    def test_called_once_with_the_run(self):
        seen = []
        self.run_.trying(seen.append)
        self.assertEqual(len(seen), 1)
        self.assertIs(seen[0], self.run_)
        self.put_back()

    def test_an_action_that_calls(self):
        def action(run):
            for part in (0, 2, 1, 2):
                run.call(part)
            return run.stand()

        wanted = self.before[0]
        for part in (0, 2, 1, 2):
            wanted = called(row(4), wanted, part)
        self.assertEqual(self.run_.trying(action), wanted)
        self.put_back()

    def test_an_action_that_takes_back_more_than_it_did(self):
        def action(run):
            run.call(2)
            run.back(3)
            run.call(0)
            run.call(0)
            run.call(2)
            return run.log()

        self.assertEqual(len(self.run_.trying(action)), 3)
        self.put_back()

    def test_an_action_that_raises(self):
        for kind in (Own, NoPart, KeyError, StopIteration):
            error = kind()

            def action(run):
                run.call(2)
                run.back(2)
                raise error

            with self.assertRaises(kind) as caught:
                self.run_.trying(action)
            self.assertIs(caught.exception, error)
            self.put_back()

    def test_an_action_whose_call_raises(self):
        def action(run):
            run.call(2)
            run.call(4)

        self.raises(NoPart, self.run_.trying, action)
        self.put_back()
        with self.assertRaises(WebError):
            self.run_.trying(lambda run: run.back(3))
        self.put_back()

    def test_trying_in_trying(self):
        def inner(run):
            run.back(1)
            run.call(2)
            return state(run)

        def outer(run):
            run.call(0)
            ahead = state(run)
            told = run.trying(inner)
            self.assertEqual(state(run), ahead)
            return told

        self.assertEqual(self.run_.trying(outer), plain_state(row(4), (0, 1), (1, 3, 2)))
        self.put_back()

    def test_a_copy_made_in_trying_goes_on(self):
        def action(run):
            run.call(2)
            return run.copy()

        other = self.run_.trying(action)
        self.put_back()
        self.assertEqual(state(other), plain_state(row(4), (0, 1), (1, 3, 2)))
        other.call(0)
        other.back(4)
        self.put_back()

    def test_goes_on_behind_trying(self):
        self.run_.trying(lambda run: run.call(2))
        self.run_.call(0)
        self.assertEqual(state(self.run_), plain_state(row(4), (0, 1), (1, 3, 0)))


if __name__ == "__main__":
    unittest.main()
