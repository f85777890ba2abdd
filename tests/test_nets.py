"""10.1 to 10.3: nets, their rests, what comes of a stand, rounds, and the eleventh and fourteenth fact."""

import unittest
from itertools import permutations, product

from silencers.calls import called
from silencers.coming import can_come, ends, row_to
from silencers.errors import BadNet, NoPart, NoRest, NoStand
from silencers.nets import (
    Net, any_round, is_any_round, is_odd_round, net_called, net_comes, net_of, net_rests, net_round, net_row, odd_round,
    only_rest,
)
from silencers.rests import many_rests, rest_at, rests
from silencers.webs import Web, beside, copied, full, ring, row
from things import (
    Raising, all_lots, all_nets, all_webs, big_webs, is_free, no_lots, no_numbers, no_parts, plain_ends, plain_rests,
    random_net, random_web, small_webs, things, webs_of_24,
)

LATCH = Web(2, ((0, 1),))
THREE = Net(3, ((0, 1), (1, 2), (2, 0)))
LINE = Net(12, tuple((a, b) for a in range(12) for b in range(a + 1, 12)))
ROUND = Net(12, tuple(sorted((k, (k + 1) % 12) for k in range(12))))
FEW = [net for size in (1, 2, 3) for net in all_nets(size)]
FEW += [random_net(4, tenths, seed) for tenths in (2, 3, 4, 5, 7) for seed in range(12)]
FEW += [random_net(5, tenths, seed) for tenths in (1, 2, 3, 5) for seed in range(4)]
MORE = [random_net(size, tenths, seed) for size in (6, 7) for tenths in (1, 2, 4) for seed in (0, 1)]
PROBES = (Net(1, ()), THREE, LINE, net_of(row(4)), net_of(row(24)), net_of(copied(row(4), 6)))


def by(net, part):
    """The parts that silence a part."""
    return {a for a, b in net.arrows if b == part}


def plain_net_called(net, stand, part):
    told = not by(net, part) & set(stand)
    return tuple(sorted(set(stand) - {part} | ({part} if told else set())))


def plain_net_rests(net):
    return [lot for lot in all_lots(net.size)
            if all((part in lot) == (not by(net, part) & set(lot)) for part in range(net.size))]


class Ways:
    """All calls of a net from all stands, gone through."""

    def __init__(self, net):
        self.behind = {stand: [plain_net_called(net, stand, part) for part in range(net.size)]
                       for stand in all_lots(net.size)}

    def comes(self, stand):
        """The dict from the stands that rows of calls lead to, to how many calls it takes."""
        found, edge = {stand: 0}, [stand]
        for now in edge:
            for end in self.behind[now]:
                if end not in found:
                    found[end] = found[now] + 1
                    edge.append(end)
        return found

    def comes_again(self, stand):
        """Whether some row with a call that changes the stand leads from a stand back to it."""
        return any(stand in self.comes(end) for end in self.behind[stand] if end != stand)


def plain_net_behind(net, stand, calls):
    for part in calls:
        stand = plain_net_called(net, stand, part)
    return stand


def is_plain_round(net, parts):
    """Whether these unlike parts silence one another round."""
    return all((parts[at - 1], parts[at]) in net.arrows for at in range(len(parts)))


def plain_rounds(net):
    """The numbers of parts of all rounds, all rows of unlike parts gone through."""
    return {many for many in range(1, net.size + 1)
            for parts in permutations(range(net.size), many) if is_plain_round(net, parts)}


class Making(Raising, unittest.TestCase):
    def bad(self, part, *passed):
        error = self.raises(BadNet, Net, *passed)
        self.assertEqual((type(error.part), error.part), (type(part), part))

    def test_fields(self):
        net = Net(3, ((0, 1), (1, 0), (2, 0)))
        self.assertEqual((net.size, net.arrows), (3, ((0, 1), (1, 0), (2, 0))))
        self.assertEqual((Net(12, ((11, 0),)).size, Net(1, ()).arrows), (12, ()))
        self.assertEqual(LINE.arrows[-1], (10, 11))

    def test_size(self):
        for thing in no_numbers() + [0, -1, 13, 24, 10 ** 59, -(10 ** 59)]:
            for arrows in ((), ((0, 1),), None, ((1, 0), (0, 1)), []):
                self.bad("size", thing, arrows)
        for size in range(1, 13):
            self.assertEqual(Net(size, ()).size, size)

    def test_arrows(self):
        for thing in things() + [[], [(0, 1)], {}, "", 0, {(0, 1): True}]:
            if not isinstance(thing, tuple):
                self.bad("arrows", 3, thing)

    def test_wrong_arrows(self):
        wrong = things() + [0, (0,), (0, 1, 2), [0, 1], (0, 0), (2, 2), (0, 3), (3, 0), (-1, 0), (0, -1), (True, 2),
                            (0, True), (False, 1), ("0", 1), ((0, 1),), (0, None), (1, (0,)), {0: 1}, (10 ** 59, 0)]
        for thing in wrong:
            self.bad(0, 3, (thing,))
            self.bad(0, 3, (thing, thing))
            self.bad(1, 3, ((0, 1), thing))
            self.bad(2, 3, ((0, 1), (0, 2), thing, (9, 9)))

    def test_order(self):
        self.bad(1, 3, ((0, 1), (0, 1)))
        self.bad(1, 3, ((1, 0), (0, 1)))
        self.bad(2, 3, ((0, 2), (1, 0), (0, 1), (9, 9)))
        self.bad(3, 4, ((0, 1), (1, 0), (2, 3), (2, 1)))
        self.assertEqual(Net(3, ((0, 1), (1, 0), (1, 2), (2, 1))).arrows, ((0, 1), (1, 0), (1, 2), (2, 1)))

    def test_equality(self):
        self.assertEqual(Net(3, ((0, 1),)), Net(3, ((0, 1),)))
        self.assertNotEqual(Net(3, ((0, 1),)), Net(3, ((1, 0),)))
        self.assertNotEqual(Net(3, ((0, 1),)), Net(4, ((0, 1),)))
        self.assertEqual([net for net in all_nets(3) if net == THREE], [THREE])
        for thing in things() + [Web(3, ((0, 1),)), (3, ((0, 1),))]:
            if not isinstance(thing, Net):
                self.assertIs(Net(3, ((0, 1),)) == thing, False)
                self.assertIs(thing == Net(3, ((0, 1),)), False)
        self.assertFalse(Net(2, ()) == Web(2, ()) or Web(2, ()) == Net(2, ()))

    def test_net_of(self):
        for web in small_webs() + webs_of_24() + big_webs()[:3]:
            net = net_of(web)
            self.assertIsInstance(net, Net)
            self.assertEqual(net.size, web.size)
            self.assertIsInstance(net.arrows, tuple)
            self.assertEqual(net.arrows, tuple(sorted(web.ties + tuple((b, a) for a, b in web.ties))))
        self.assertEqual(net_of(LATCH), Net(2, ((0, 1), (1, 0))))
        self.assertEqual(net_of(row(24)), net_of(row(24)))


class SmallNets(unittest.TestCase):
    @classmethod
    def setUpClass(cls):
        cls.cases = [(net, Ways(net)) for net in FEW + MORE]

    def test_example(self):
        self.assertEqual((net_rests(THREE), net_rests(net_of(LATCH))), ([], [(0,), (1,)]))

    def test_net_called(self):
        for net, ways in self.cases:
            for stand, behind in ways.behind.items():
                self.assertEqual([net_called(net, stand, part) for part in range(net.size)], behind)

    def test_net_rests(self):
        for net, _ in self.cases:
            self.assertIsInstance(net_rests(net), list)
            self.assertEqual(net_rests(net), plain_net_rests(net))

    def test_net_comes_and_net_row(self):
        for net, ways in self.cases:
            wanted = plain_net_rests(net)
            for stand in all_lots(net.size)[::1 if net.size < 6 else 9]:
                comes = ways.comes(stand)
                self.assertIsInstance(net_comes(net, stand), list)
                self.assertEqual(net_comes(net, stand), [rest for rest in wanted if rest in comes])
                for rest in wanted:
                    found = net_row(net, stand, rest)
                    if rest not in comes:
                        self.assertIsNone(found)
                        continue
                    self.assertIsInstance(found, tuple)
                    self.assertEqual(plain_net_behind(net, stand, found), rest)
                    self.assertEqual(len(found), comes[rest])

    def check_round(self, net, stand, found):
        self.assertIsInstance(found, tuple)
        first, second = found
        self.assertTrue(isinstance(first, tuple) and isinstance(second, tuple))
        self.assertLessEqual(max(len(first), len(second)), 1000)
        again = plain_net_behind(net, stand, first)
        self.assertEqual(plain_net_behind(net, again, second), again)
        self.assertTrue(any(plain_net_behind(net, again, second[:at + 1]) != again for at in range(len(second))))

    def test_net_round(self):
        for net, ways in self.cases:
            lasting = {stand: ways.comes_again(stand) for stand in ways.behind} if net.size < 6 else None
            for stand in all_lots(net.size)[::1 if net.size < 6 else 9]:
                found = net_round(net, stand)
                if lasting is not None:
                    self.assertEqual(found is not None, any(lasting[end] for end in ways.comes(stand)))
                if found is not None:
                    self.check_round(net, stand, found)
                else:
                    self.assertTrue(net_comes(net, stand))

    def test_webs_as_nets(self):
        for web in [web for web in small_webs() if web.size < 6]:
            net = net_of(web)
            self.assertEqual(net_rests(net), plain_rests(web))
            for stand in all_lots(web.size)[::3]:
                self.assertEqual(net_comes(net, stand), plain_ends(web, stand))
                self.assertIsNone(net_round(net, stand))
                for rest in plain_rests(web):
                    wanted, found = row_to(web, stand, rest), net_row(net, stand, rest)
                    self.assertEqual(None if found is None else len(found), None if wanted is None else len(wanted))

    def test_known(self):
        self.assertEqual(net_comes(THREE, ()), [])
        self.check_round(THREE, (), net_round(THREE, ()))
        self.assertIsNone(net_round(LINE, tuple(range(12))))
        self.assertEqual(net_row(LINE, (0,), (0,)), ())
        self.assertEqual(net_rests(ROUND), [tuple(range(0, 12, 2)), tuple(range(1, 12, 2))])
        self.assertEqual(net_rests(Net(12, ())), [tuple(range(12))])
        # Of three that silence one another round, a fourth one that silences one of them makes a rest.
        self.assertEqual(net_rests(Net(4, ((0, 1), (1, 2), (2, 0), (3, 0)))), [(1, 3)])


class Rounds(Raising, unittest.TestCase):
    def test_odd_and_any_round(self):
        for net in FEW + MORE:
            many = plain_rounds(net)
            odd, some = odd_round(net), any_round(net)
            self.assertEqual(odd is not None, any(number % 2 for number in many))
            self.assertEqual(some is not None, bool(many))
            if odd is not None:
                self.assertIsInstance(odd, tuple)
                self.assertTrue(len(set(odd)) == len(odd) and len(odd) % 2 and is_plain_round(net, odd))
                self.assertIs(is_odd_round(net, odd), True)
            if some is not None:
                self.assertIsInstance(some, tuple)
                self.assertTrue(len(set(some)) == len(some) > 1 and is_plain_round(net, some))
                self.assertIs(is_any_round(net, some), True)

    def test_is_round_of_all_tuples(self):
        for net in FEW[::3]:
            for many in range(net.size + 2 if net.size < 5 else 4):
                for parts in product(range(net.size), repeat=many):
                    right = many > 0 and len(set(parts)) == many and is_plain_round(net, parts)
                    self.assertIs(is_any_round(net, parts), right)
                    self.assertIs(is_odd_round(net, parts), right and many % 2 == 1)

    def test_what_is_no_round(self):
        both = Net(3, ((0, 1), (0, 2), (1, 0), (1, 2), (2, 0), (2, 1)))
        for parts in ((0, 1, 2), (2, 1, 0), (1, 2, 0)):
            self.assertTrue(is_odd_round(both, parts) and is_any_round(both, parts))
        wrong = things() + no_lots(3) + [
            (), (0,), [0, 1, 2], [0, 1], (0, 1, 0), (0, 0, 1), (0, 1, 3), (0, 1, -1), (0, True, 2), (False, 1, 2),
            (0, "1", 2), (0, (1,), 2), (0, 1, 2, 0), (0, 1, None), ((0, 1, 2),), "012", {0: 1, 1: 2, 2: 0}, (0, [1], 2),
        ]
        for thing in wrong:
            if thing not in ((0, 1), (1, 0)):
                self.assertIs(is_any_round(both, thing), False)
            self.assertIs(is_odd_round(both, thing), False)
        for function in (is_odd_round, is_any_round):
            for thing in wrong + [(0, 1), (0, 1, 2)]:
                self.assertIs(function(Net(3, ()), thing), False)
            self.assertIs(function(Net(3, ((0, 1), (1, 2))), (0, 1, 2)), False)

    def test_the_eleventh_fact(self):
        for net in FEW + MORE + [ROUND, LINE] + [random_net(size, 1, seed) for size in (8, 12) for seed in range(4)]:
            if odd_round(net) is None:
                self.assertTrue(net_rests(net))
        some = [net for net in FEW if odd_round(net) is not None]
        self.assertTrue([net for net in some if net_rests(net)] and [net for net in some if not net_rests(net)])

    def test_the_fourteenth_fact(self):
        without = 0
        for net in FEW + MORE:
            found = only_rest(net)
            self.assertEqual(found is None, any_round(net) is not None)
            if found is not None:
                without += 1
                self.assertIsInstance(found, tuple)
                self.assertEqual(plain_net_rests(net), [found])
                for stand in all_lots(net.size):
                    self.assertEqual(net_comes(net, stand), [found])
        self.assertGreater(without, 40)

    def test_only_rest_of_twelve(self):
        self.assertEqual(only_rest(LINE), (0,))
        self.assertEqual(net_rests(LINE), [(0,)])
        self.assertEqual(net_comes(LINE, tuple(range(12))), [(0,)])
        self.assertIsNone(any_round(LINE))
        back = Net(12, tuple(sorted((b, a) for a, b in LINE.arrows)))
        self.assertEqual(only_rest(back), (11,))
        chain = Net(12, tuple((k + 1, k) for k in range(11)))
        self.assertEqual(only_rest(chain), tuple(range(1, 12, 2)))
        self.assertEqual(only_rest(Net(12, ())), tuple(range(12)))
        self.assertIsNone(only_rest(ROUND))
        self.assertEqual(sorted(any_round(ROUND)), list(range(12)))
        self.assertIsNone(odd_round(ROUND))
        eleven = Net(12, tuple(sorted((k, (k + 1) % 11) for k in range(11))))
        self.assertEqual(sorted(odd_round(eleven)), list(range(11)))

    def test_two_even_rounds_that_make_no_odd_one(self):
        eight = Net(5, ((0, 1), (1, 0), (1, 2), (2, 3), (3, 4), (4, 1)))
        self.assertIsNone(odd_round(eight))
        self.assertIs(is_any_round(eight, (1, 2, 3, 4)), True)
        # A closed way of five that goes through a part twice holds a round of three.
        found = odd_round(Net(4, ((0, 1), (1, 0), (1, 2), (2, 3), (3, 1))))
        self.assertEqual(sorted(found), [1, 2, 3])


class TwelveAndMore(unittest.TestCase):
    def test_twelve_parts(self):
        for net in (ROUND, LINE, random_net(12, 1, 3), random_net(12, 2, 1), random_net(12, 4, 2), net_of(ring(12))):
            found = net_rests(net)
            self.assertEqual(found, sorted(found))
            for rest in found:
                self.assertEqual([net_called(net, rest, part) for part in range(12)], [rest] * 12)
            for stand in ((), tuple(range(12)), (0, 3, 4, 7)):
                comes = net_comes(net, stand)
                self.assertEqual([rest for rest in found if net_row(net, stand, rest) is not None], comes)
                for rest in comes:
                    self.assertEqual(plain_net_behind(net, stand, net_row(net, stand, rest)), rest)
                again = net_round(net, stand)
                if again is None:
                    self.assertTrue(comes)
                else:
                    SmallNets.check_round(self, net, stand, again)

    def test_nets_of_24_parts(self):
        for web in [web for web in webs_of_24() if many_rests(web) <= 2000]:
            net = net_of(web)
            self.assertEqual(net_rests(net), rests(web))
            for stand in ((), tuple(range(24)), (0, 1, 5, 6, 7, 20)):
                self.assertEqual(net_comes(net, stand), ends(web, stand))
                self.assertIsNone(net_round(net, stand))
                for number in {0, many_rests(web) // 2, many_rests(web) - 1}:
                    rest = rest_at(web, number)
                    found = net_row(net, stand, rest)
                    self.assertEqual(found is None, not can_come(web, stand, rest))
                    if found is not None:
                        self.assertEqual(plain_net_behind(net, stand, found), rest)
                        self.assertEqual(len(found), len(set(stand) ^ set(rest)))
            self.assertEqual(any_round(net) is None, is_free(web, tuple(range(24))))
            self.assertEqual(only_rest(net), None if web.ties else tuple(range(24)))
            self.assertEqual([net_called(net, (0, 5), part) for part in range(24)],
                             [called(web, (0, 5), part) for part in range(24)])

    def test_rests_and_ends_of_any_number(self):
        threes = beside(copied(full(3), 1), Web(1, ()))
        for _ in range(6):
            threes = beside(full(3), threes)
        net = net_of(threes)
        self.assertEqual((net.size, len(net_rests(net))), (22, 2187))
        self.assertEqual(len(net_comes(net, ())), 2187)
        self.assertEqual(len(net_comes(net, tuple(range(21)))), 2187)
        self.assertEqual(len(net_comes(net, (0,))), 729)

    def test_rounds_of_nets_of_webs(self):
        for web in (row(24), ring(24), full(24), Web(24, ()), ring(13), random_web(24, 3, 1), big_webs()[0]):
            odd = odd_round(net_of(web))
            self.assertEqual(odd is None, web in (row(24), ring(24), Web(24, ())))
            if odd is not None:
                self.assertIs(is_odd_round(net_of(web), odd), True)
            self.assertEqual(any_round(net_of(web)) is None, not web.ties)
        self.assertEqual(sorted(odd_round(net_of(ring(13)))), list(range(13)))

    def test_new_lists_and_nothing_changed(self):
        net = net_of(LATCH)
        for function, more in ((net_rests, ()), (net_comes, ((),))):
            found = function(net, *more)
            self.assertIsNot(function(net, *more), found)
            found.clear()
            self.assertEqual(function(net, *more), [(0,), (1,)])
        net_round(THREE, ()), odd_round(THREE), any_round(THREE), only_rest(THREE)
        self.assertEqual((net, THREE), (Net(2, ((0, 1), (1, 0))), Net(3, ((0, 1), (1, 2), (2, 0)))))


class Errors(Raising, unittest.TestCase):
    def test_no_stand(self):
        for net in PROBES:
            size = net.size
            for function, behind in ((net_called, (0,)), (net_called, (None,)), (net_comes, ()), (net_round, ()),
                                     (net_row, ((0,),)), (net_row, (None,))):
                self.raises_for_all(NoStand, function, (net,), no_lots(size), behind)

    def test_no_part(self):
        for net in PROBES:
            self.raises_for_all(NoPart, net_called, (net, (0,)), no_parts(net.size))

    def test_no_rest(self):
        for net in PROBES:
            found = net_rests(net)
            wrong = no_lots(net.size) + [lot for lot in ((), (0,), (0, 1), (1,), (0, 2)) if lot not in found]
            for stand in ((), (0,)):
                self.raises_for_all(NoRest, net_row, (net, stand), wrong + [list(rest) for rest in found[:2]])

    def test_errors_of_webs_as_nets(self):
        for web in all_webs(3):
            for lot in all_lots(3):
                if lot not in plain_rests(web):
                    self.raises(NoRest, net_row, net_of(web), (), lot)


if __name__ == "__main__":
    unittest.main()
