"""11.1 to 11.3: buildings, blocks, needs, and what a part that is put to a rest turns."""

import sys
import unittest
from itertools import combinations, permutations

from silencers.apart import blocks, building, is_building, is_built, needs, rests_by, taken_out, turned_by
from silencers.calls import is_rest
from silencers.coming import ends
from silencers.errors import NoBlock, NoPart, NoRest, TooMany
from silencers.rests import many_rests, rest_at, rests
from silencers.shapes import renaming
from silencers.webs import Web, beside, copied, full, joined, kept, put_in, ring, row, web_of_any_size
from things import (
    Raising, all_lots, all_webs, big_webs, near, nested_tuple, no_lots, no_parts, plain_ends, plain_rests, random_web,
    same_web, small_webs, things, webs_of_24,
)

LATCH = Web(2, ((0, 1),))
FIVES = all_webs(5)[::7]
SOME = small_webs() + FIVES
PROBES = (row(4), full(3), Web(1, ()), row(24), copied(row(4), 6))


def plain_pieces(web, lot, wanted):
    """The lots that hang together by pairs of parts that are tied, or that are not, as wanted."""
    tied = near(web)
    found = []
    for part in lot:
        linked = [piece for piece in found if any((other in tied[part]) == wanted for other in piece)]
        found = [piece for piece in found if piece not in linked] + [{part}.union(*linked)]
    return sorted(tuple(sorted(piece)) for piece in found)


def plain_building(web, lot):
    if len(lot) == 1:
        return ("part", lot[0])
    for word, wanted in (("beside", True), ("joined", False)):
        found = plain_pieces(web, lot, wanted)
        if len(found) > 1:
            return (word, tuple(plain_building(web, piece) for piece in found))
    return ("other", lot)


def parts_in(thing):
    if thing[0] == "part":
        return (thing[1],)
    return thing[1] if thing[0] == "other" else tuple(part for inner in thing[1] for part in parts_in(inner))


def is_right(web, thing):
    """Whether what has the form of a building is one of some parts of the web, by the words of 11.1."""
    word, inside = thing
    if word == "part":
        return True
    if word == "other":
        return (len(inside) >= 4 and inside == tuple(sorted(inside)) and len(plain_pieces(web, inside, True)) == 1
                and len(plain_pieces(web, inside, False)) == 1)
    lots = [parts_in(inner) for inner in inside]
    tied = near(web)
    return (len(inside) >= 2 and all(inner[0] != word for inner in inside)
            and [min(lot) for lot in lots] == sorted(min(lot) for lot in lots)
            and all((b in tied[a]) == (word == "joined") for one, other in combinations(lots, 2) for a in one for b in other)
            and all(is_right(web, inner) for inner in inside))


def all_buildings(lot):
    """All that has the form of a building of these parts, in any order and of any words."""
    found = [("part", lot[0])] if len(lot) == 1 else [("other", lot)]
    for split in splits(lot):
        if len(split) > 1:
            for word in ("beside", "joined"):
                found += [(word, inside) for inside in products([all_buildings(piece) for piece in split])]
    return found


def splits(lot):
    if not lot:
        return [()]
    found = []
    for many in range(len(lot)):
        for more in combinations(lot[1:], many):
            left = tuple(part for part in lot[1:] if part not in more)
            found += [((lot[0],) + more,) + split for split in splits(left)]
    return found


def products(lists):
    if not lists:
        return [()]
    return [(first,) + behind for first in lists[0] for behind in products(lists[1:])]


def stairs(size):
    """The web, as webs put together by turns beside and joined to a part are, that is built deepest."""
    return web_of_any_size(size, [(a, b) for b in range(1, size, 2) for a in range(b)])


class Buildings(unittest.TestCase):
    def test_example(self):
        self.assertEqual(building(row(3)), ("joined", (("beside", (("part", 0), ("part", 2))), ("part", 1))))

    def test_building(self):
        for web in SOME + webs_of_24() + big_webs()[:4]:
            found = building(web)
            self.assertEqual(found, plain_building(web, tuple(range(web.size))))
            self.assertEqual(sorted(parts_in(found)), list(range(web.size)))
            self.assertTrue(is_right(web, found))
            self.assertIs(is_building(web, found), True)

    def test_there_is_one(self):
        """Of all that has the form of a building, just one is one."""
        for size in (1, 2, 3, 4):
            forms = all_buildings(tuple(range(size)))
            for web in all_webs(size):
                right = [thing for thing in forms if is_right(web, thing)]
                self.assertEqual(right, [building(web)])
                if size < 4 or web.ties in (((0, 1),), ((0, 1), (1, 2), (2, 3)), ((0, 2), (1, 3))):
                    self.assertEqual([thing for thing in forms if is_building(web, thing)], right)

    def test_known(self):
        self.assertEqual(building(Web(1, ())), ("part", 0))
        self.assertEqual(building(LATCH), ("joined", (("part", 0), ("part", 1))))
        self.assertEqual(building(row(4)), ("other", (0, 1, 2, 3)))
        self.assertEqual(building(ring(4)), ("joined", (("beside", (("part", 0), ("part", 2))),
                                                        ("beside", (("part", 1), ("part", 3))))))
        self.assertEqual(building(beside(row(4), full(2))),
                         ("beside", (("other", (0, 1, 2, 3)), ("joined", (("part", 4), ("part", 5))))))
        self.assertEqual(building(full(24)), ("joined", tuple(("part", part) for part in range(24))))

    def test_is_building_of_changed_ones(self):
        web = beside(joined(row(4), Web(2, ())), LATCH)
        inner = ("joined", (("other", (0, 1, 2, 3)), ("beside", (("part", 4), ("part", 5)))))
        right = ("beside", (inner, ("joined", (("part", 6), ("part", 7)))))
        self.assertEqual(building(web), right)
        changed = [
            ("beside", (("joined", (("part", 6), ("part", 7))), inner)), ("joined", right[1]), ("beside", list(right[1])),
            list(right), right + ((),), ("beside",), ("beside", right[1] + (("part", 8),)), ("beside", right[1][:1]),
            ("beside", (inner, ("joined", (("part", 7), ("part", 6))))), ("beside", (right,)), (right,), right[1], inner,
            ("beside", (inner, ("joined", (("part", 6), ["part", 7])))), ("beside", (inner, ("joined", (("part", 6),)))),
            ("beside", (inner, ("part", 6), ("part", 7))), ("other", tuple(range(8))), ("Beside", right[1]),
            ("beside", (inner, ("joined", (("part", 6), ("part", "7"))))), ("beside", inner, right[1][1]),
            ("beside", (("joined", (("other", [0, 1, 2, 3]), inner[1][1])), right[1][1])),
            ("beside", (("joined", (("other", (0, 1, 3, 2)), inner[1][1])), right[1][1])),
            ("beside", (("joined", (("other", (False, True, 2, 3)), inner[1][1])), right[1][1])),
        ]
        for thing in changed + things() + [right[0], None, (), 0]:
            self.assertIs(is_building(web, thing), False)
        self.assertIs(is_building(web, right), True)

    def test_flags_and_deep_things(self):
        self.assertIs(is_building(Web(1, ()), ("part", 0)), True)
        self.assertIs(is_building(LATCH, ("joined", (("part", 0), ("part", 1)))), True)
        self.assertIs(is_building(LATCH, ("joined", (("part", False), ("part", True)))), False)
        for thing in things() + [("part", False), ["part", 0], ("part",), ("part", 0, 0), ("part", 1), ("part", (0,)),
                                 ("part", nested_tuple(38)), (b"part", 0), "part", ("beside", (("part", 0),)),
                                 ("beside", ()), ("other", (0,)), ("joined", (("part", 0),))]:
            self.assertIs(is_building(Web(1, ()), thing), False)
            self.assertIs(is_building(Web(1, ()), ("part", thing)), False)
            if thing != ("part", 1):
                self.assertIs(is_building(LATCH, ("joined", (("part", 0), thing))), False)
            self.assertIs(is_building(LATCH, ("joined", thing)), False)
            self.assertIs(is_building(row(4), ("other", thing)), False)

    def test_is_built(self):
        for web in SOME:
            path = any((b in near(web)[a]) and (c in near(web)[b]) and (d in near(web)[c]) and c not in near(web)[a]
                       and d not in near(web)[a] and d not in near(web)[b] for a, b, c, d in permutations(range(web.size), 4))
            self.assertIs(is_built(web), not path)
        self.assertIs(is_built(full(24)), True)
        self.assertIs(is_built(copied(full(24), 6)), True)
        self.assertIs(is_built(beside(full(24), row(4))), False)

    def test_rests_by(self):
        for web in SOME + webs_of_24() + big_webs():
            self.assertEqual(rests_by(web), many_rests(web))
        for web in all_webs(4):
            self.assertEqual(rests_by(web), len(plain_rests(web)))

    def test_products_and_sums(self):
        one, other = ring(5), joined(row(4), LATCH)
        self.assertEqual(rests_by(beside(one, other)), rests_by(one) * rests_by(other))
        self.assertEqual(rests_by(joined(one, other)), rests_by(one) + rests_by(other))
        self.assertEqual(building(beside(one, other))[0], "beside")
        self.assertEqual(building(joined(one, other))[0], "joined")

    def test_built_deep(self):
        deep = stairs(300)
        limit = sys.getrecursionlimit()
        sys.setrecursionlimit(150)
        try:
            found = building(deep)
            self.assertIs(is_building(deep, found), True)
            self.assertIs(is_building(stairs(299), found), False)
            self.assertIs(is_built(deep), True)
            self.assertEqual(rests_by(deep), 151 if found[0] == "joined" else 150)
        finally:
            sys.setrecursionlimit(limit)
        depth = 0
        while found[0] != "part":
            found, depth = found[1][0], depth + 1
        self.assertEqual(depth, 299)
        self.assertEqual(building(stairs(20)), plain_building(stairs(20), tuple(range(20))))
        self.assertEqual(rests_by(stairs(24)), many_rests(stairs(24)))


class Blocks(Raising, unittest.TestCase):
    def plain_blocks(self, web):
        tied = near(web)
        return [lot for lot in all_lots(web.size) if 2 <= len(lot) < web.size
                and all(len(tied[part] & set(lot)) in (0, len(lot)) for part in range(web.size) if part not in lot)]

    def test_blocks(self):
        for web in SOME:
            found = blocks(web)
            self.assertIsInstance(found, list)
            self.assertEqual(found, self.plain_blocks(web))
        self.assertEqual(len(blocks(Web(12, ()))), 2 ** 12 - 14)
        self.assertEqual(blocks(row(12)), [])
        self.assertEqual(blocks(row(3)), [(0, 2)])
        self.assertEqual(blocks(copied(row(4), 3)), self.plain_blocks(copied(row(4), 3)))

    def test_taken_out(self):
        for web in [web for web in SOME if web.size < 7]:
            for lot in blocks(web):
                found = taken_out(web, lot)
                self.assertIsInstance(found, tuple)
                one, block = found
                left = tuple(part for part in range(web.size) if part == lot[0] or part not in lot)
                same_web(self, one, len(left), [(a, b) for a, b in combinations(range(len(left)), 2)
                                                if left[b] in near(web)[left[a]]])
                same_web(self, block, len(lot), [(a, b) for a, b in combinations(range(len(lot)), 2)
                                                 if lot[b] in near(web)[lot[a]]])
                self.assertIsNotNone(renaming(put_in(one, lot[0], block), web))

    def test_taken_out_of_more_parts(self):
        web = put_in(row(24), 11, random_web(24, 3, 5))
        one, block = taken_out(web, tuple(range(11, 35)))
        self.assertEqual((one, block), (row(24), random_web(24, 3, 5)))
        self.assertEqual(put_in(one, 11, block), web)
        self.assertEqual(taken_out(copied(ring(5), 6), (6, 7, 8, 9, 10, 11))[1], Web(6, ()))
        self.assertEqual(taken_out(full(24), (3, 23)), (full(23), full(2)))

    def test_no_block(self):
        for web in (row(3), full(3), Web(1, ()), Web(2, ()), copied(row(4), 6), row(24)):
            size = web.size
            wrong = no_lots(size) + [(), (0,), (size - 1,), tuple(range(size)), list(range(size))]
            self.raises_for_all(NoBlock, taken_out, (web,), wrong)
        self.raises_for_all(NoBlock, taken_out, (row(3),), [(0, 1), (1, 2), [0, 2], (2, 0), (0, 2, 2), (False, 2)])
        for web in SOME[::5]:
            found = blocks(web)
            for lot in all_lots(web.size):
                if lot not in found:
                    self.raises(NoBlock, taken_out, web, lot)

    def test_too_many(self):
        for web in webs_of_24() + big_webs()[:3] + [row(13), full(13)]:
            self.assertEqual(self.raises(TooMany, blocks, web).most, 12)

    def test_new_lists(self):
        found = blocks(full(3))
        self.assertIsNot(blocks(full(3)), found)
        found.clear()
        self.assertEqual(blocks(full(3)), [(0, 1), (0, 2), (1, 2)])


class Turning(Raising, unittest.TestCase):
    def pairs(self, webs):
        for web in webs:
            for rest in plain_rests(web):
                for part in range(web.size):
                    if part not in rest:
                        yield web, rest, part

    def test_needs(self):
        for web, rest, part in self.pairs(SOME):
            found = needs(web, rest, part)
            self.assertIsInstance(found, tuple)
            self.assertEqual(found, tuple(sorted(near(web)[part] & set(rest))))
            self.assertTrue(found)

    def test_turned_by(self):
        for web, rest, part in self.pairs([web for web in SOME if web.size < 6]):
            found = turned_by(web, rest, part)
            self.assertIsInstance(found, list)
            self.assertEqual(found, plain_ends(web, tuple(sorted(rest + (part,)))))
            self.assertIn(rest, found)
            self.assertGreater(len(found), 1)

    def test_more_parts(self):
        for web in webs_of_24() + big_webs():
            for number in {0, many_rests(web) // 3}:
                rest = rest_at(web, number)
                for part in [part for part in range(web.size) if part not in rest][::7]:
                    self.assertEqual(needs(web, rest, part), tuple(sorted(near(web)[part] & set(rest))))
        for web in (row(24), ring(24), random_web(24, 3, 5)):
            rest = rests(web)[0]
            for part in [part for part in range(web.size) if part not in rest]:
                self.assertEqual(turned_by(web, rest, part), ends(web, tuple(sorted(rest + (part,)))))

    def test_any_number_of_rests(self):
        threes = full(3)
        for _ in range(6):
            threes = beside(threes, full(3))
        web = web_of_any_size(22, list(threes.ties) + [(part, 21) for part in range(0, 21, 3)])
        rest = tuple(range(0, 21, 3))
        found = turned_by(web, rest, 21)
        self.assertGreater(len(found), 2000)
        self.assertEqual(found, sorted(found))
        self.assertRaises(TooMany, rests, web)
        self.assertEqual(len(found), many_rests(web))

    def test_errors(self):
        for web in PROBES:
            found = rest_at(web, 0)
            others = [part for part in range(web.size) if part not in found]
            wrong = no_lots(web.size) + [lot for lot in ((), (0, 1), (1,), (0,)) if not is_rest(web, lot)]
            for function in (needs, turned_by):
                for part in others[:1] + [None, found[0], -1]:
                    self.raises_for_all(NoRest, function, (web,), wrong + [list(found)], (part,))
                self.raises_for_all(NoPart, function, (web, found), no_parts(web.size) + list(found))

    def test_nothing_is_changed(self):
        web, rest = beside(LATCH, LATCH), (0, 2)
        found = turned_by(web, rest, 1)
        self.assertIsNot(turned_by(web, rest, 1), found)
        found.clear()
        self.assertEqual(turned_by(web, rest, 1), [(0, 2), (1, 2)])
        self.assertEqual((web, rest), (Web(4, ((0, 1), (2, 3))), (0, 2)))
        self.assertEqual(kept(web, (0, 1)), LATCH)


if __name__ == "__main__":
    unittest.main()
