"""12.1: Board."""

import unittest
from itertools import product
from random import Random

from silencers.boards import Board
from silencers.calls import changers
from silencers.coming import ends
from silencers.errors import NoPart, NothingDone, TooMany
from silencers.webs import Web, beside, copied, full, ring, row
from things import Raising, all_webs, big_webs, no_parts, plain_called, plain_ends, plain_told, random_web, same_web, things

LATCH = Web(2, ((0, 1),))
FOUR = row(4)


def state(board):
    return board.web(), board.stand(), board.deeds()


def all_deeds(size):
    """All deeds on a board of so many parts: the name of the method, and what it is passed."""
    parts = range(size)
    pairs = [(a, b) for a, b in product(parts, repeat=2) if a != b]
    return [(name, (part,)) for name in ("put", "drop", "call") for part in parts] + [
        (name, pair) for name in ("tie", "untie") for pair in pairs]


def do(board, deed):
    name, passed = deed
    return getattr(board, name)(*passed)


class Plain:
    """What a board is behind some deeds, worked out from the beginning."""

    def __init__(self, web, deeds):
        self.size, self.ties, self.stand, self.told = web.size, set(web.ties), (), None
        for name, passed in deeds:
            self.do(name, passed)

    def do(self, name, passed):
        pair = tuple(sorted(passed))
        self.told = None
        if name == "tie":
            self.ties.add(pair)
        elif name == "untie":
            self.ties.discard(pair)
        elif name == "call":
            self.told = plain_told(self.web(), self.stand, passed[0])
            self.stand = plain_called(self.web(), self.stand, passed[0])
        else:
            self.stand = tuple(sorted(set(self.stand) - set(passed) | (set(passed) if name == "put" else set())))

    def web(self):
        return Web(self.size, tuple(sorted(self.ties)))


def some_deeds(size, many, seed):
    luck = Random(seed)
    deeds = all_deeds(size)
    return [luck.choice(deeds) for _ in range(many)]


class Deeds(Raising, unittest.TestCase):
    def check(self, board, web, deeds):
        plain = Plain(web, deeds)
        self.assertEqual(state(board), (plain.web(), plain.stand, len(deeds)))
        self.assertEqual(board.changers(), changers(plain.web(), plain.stand))
        self.assertEqual(board.ends(), plain_ends(plain.web(), plain.stand))

    def test_at_first(self):
        for web in (Web(1, ()), FOUR, row(24), copied(row(4), 6)):
            board = Board(web)
            self.assertEqual(state(board), (web, (), 0))
            self.assertIsInstance(board.stand(), tuple)
            self.assertIsInstance(board.web(), Web)
            self.assertEqual(board.changers(), tuple(range(web.size)))

    def test_all_short_rows_of_deeds(self):
        for web in [Web(1, ())] + all_webs(2) + all_webs(3)[::3]:
            for many in range(3):
                for deeds in list(product(all_deeds(web.size), repeat=many))[::1 if web.size < 3 else 5]:
                    board = Board(web)
                    for at, deed in enumerate(deeds):
                        told = do(board, deed)
                        wanted = Plain(web, deeds[:at + 1]).told
                        self.assertIs(told, wanted)
                    self.check(board, web, list(deeds))

    def test_long_rows_of_deeds_there_and_back(self):
        for web in (FOUR, ring(5), full(4), Web(3, ()), random_web(6, 4, 2)):
            for seed in range(4):
                deeds = some_deeds(web.size, 40, seed)
                board = Board(web)
                for at, deed in enumerate(deeds):
                    self.assertIs(do(board, deed), Plain(web, deeds[:at + 1]).told)
                    if at % 5 == 0:
                        self.check(board, web, deeds[:at + 1])
                for many in range(len(deeds) - 1, -1, -1):
                    self.assertIsNone(board.back())
                    self.check(board, web, deeds[:many])
                self.raises(NothingDone, board.back)
                self.assertEqual(state(board), (web, (), 0))

    def test_kinds_of_results(self):
        board = Board(FOUR)
        self.assertEqual([board.tie(0, 2), board.untie(3, 2), board.put(1), board.drop(0), board.put(0)], [None] * 5)
        self.assertIs(board.call(3), True)
        self.assertIs(board.call(2), False)
        self.assertEqual(state(board), (Web(4, ((0, 1), (0, 2), (1, 2))), (0, 1, 3), 7))
        same_web(self, board.web(), 4, ((0, 1), (0, 2), (1, 2)))
        self.assertEqual(board.changers(), (0, 1))
        self.assertIsInstance(board.ends(), list)
        self.assertEqual(board.ends(), [(0, 3), (1, 3)])
        self.assertIsNone(board.back())

    def test_what_changes_nothing_is_a_deed(self):
        board = Board(LATCH)
        for deed in (("tie", (1, 0)), ("drop", (0,)), ("put", (0,)), ("put", (0,)), ("call", (0,)), ("call", (1,))):
            do(board, deed)
        self.assertEqual(state(board), (LATCH, (0,), 6))
        for left in (5, 4, 3):
            board.back()
            self.assertEqual(state(board), (LATCH, (0,), left))
        board.back()
        self.assertEqual(state(board), (LATCH, (), 2))

    def test_ties_either_way_round(self):
        board = Board(Web(3, ()))
        board.tie(2, 0)
        self.assertEqual(board.web(), Web(3, ((0, 2),)))
        board.untie(0, 2)
        self.assertEqual(board.web(), Web(3, ()))
        board.back()
        board.untie(2, 0)
        self.assertEqual(board.web(), Web(3, ()))

    def test_what_is_asked_is_no_deed(self):
        board = Board(ring(5))
        board.put(2)
        found = board.ends()
        found.clear()
        self.assertEqual(board.ends(), ends(ring(5), (2,)))
        self.assertIsNot(board.ends(), board.ends())
        board.changers(), board.stand(), board.web(), board.copy(), board.deeds()
        self.assertEqual(state(board), (ring(5), (2,), 1))

    def test_returned_webs(self):
        for web in big_webs()[:4]:
            board = Board(web)
            board.put(web.size - 1)
            board.tie(0, web.size - 1)
            board.untie(1, web.size - 2)
            self.assertIs(board.call(0), False)
            self.assertEqual(board.stand(), (web.size - 1,))
            self.assertEqual(board.changers(), changers(board.web(), board.stand()))
            for _ in range(4):
                board.back()
            self.assertEqual(state(board), (web, (), 0))

    def test_equal_to_nothing_else(self):
        for thing in things() + [FOUR, ()]:
            if not isinstance(thing, Board):
                self.assertIs(Board(FOUR) == thing, False)


class Copies(Raising, unittest.TestCase):
    def test_copies_go_on_apart(self):
        for seed in range(8):
            web = random_web(5, 4, seed)
            first, more, others = (some_deeds(5, 12, 10 * seed + k) for k in range(3))
            board = Board(web)
            for deed in first:
                do(board, deed)
            other = board.copy()
            self.assertIsInstance(other, Board)
            self.assertIsNot(other, board)
            for one, another in zip(more, others):
                do(board, one)
                do(other, another)
            for kept, deeds in ((board, first + more), (other, first + others)):
                for many in range(len(deeds), 0, -1):
                    plain = Plain(web, deeds[:many])
                    self.assertEqual(state(kept), (plain.web(), plain.stand, many))
                    kept.back()
                self.raises(NothingDone, kept.back)

    def test_a_copy_of_a_copy(self):
        board = Board(LATCH)
        board.put(1)
        last = board.copy().copy()
        board.back()
        self.assertEqual(state(board), (LATCH, (), 0))
        self.assertEqual(state(last), (LATCH, (1,), 1))
        last.back()
        self.raises(NothingDone, last.back)


class Errors(Raising, unittest.TestCase):
    def test_no_part(self):
        for web in (FOUR, Web(1, ()), row(24), copied(row(4), 6)):
            board = Board(web)
            board.put(0)
            before = state(board)
            for method in (board.put, board.drop, board.call):
                self.raises_for_all(NoPart, method, (), no_parts(web.size))
            for method in (board.tie, board.untie):
                for other in (0, None, web.size):
                    self.raises_for_all(NoPart, method, (), no_parts(web.size), (other,))
                    self.raises_for_all(NoPart, method, (other,), no_parts(web.size))
                for part in range(web.size):
                    self.raises(NoPart, method, part, part)
            self.assertEqual(state(board), before)
            board.back()
            self.assertEqual(state(board), (web, (), 0))

    def test_nothing_done(self):
        board = Board(FOUR)
        self.raises(NothingDone, board.back)
        self.raises(NoPart, board.put, 4)
        self.raises(NothingDone, board.back)
        board.put(3)
        board.back()
        self.raises(NothingDone, board.back)
        self.assertEqual(state(board), (FOUR, (), 0))

    def test_too_many_ends(self):
        twos = Web(22, tuple((k, k + 1) for k in range(0, 22, 2)))
        board = Board(twos)
        self.assertEqual(self.raises(TooMany, board.ends).most, 2000)
        self.assertEqual(state(board), (twos, (), 0))
        board.put(0)
        self.assertEqual(len(board.ends()), 1024)
        board.tie(0, 2)
        self.assertEqual(board.ends(), ends(board.web(), (0,)))
        self.assertEqual(self.raises(TooMany, Board(beside(twos, twos)).ends).most, 2000)


if __name__ == "__main__":
    unittest.main()
