"""What the tests share: things of every kind, webs, and plain ways to work things out."""

from functools import lru_cache
from itertools import combinations, permutations, product
from random import Random

from silencers.boards import Board
from silencers.desks import Desk
from silencers.errors import BadWeb, NoPart, TooMany
from silencers.lists import List
from silencers.nets import Net
from silencers.rests import rests
from silencers.runs import Run
from silencers.webs import Web, beside, copied, full, joined, put_in, ring, row


def nested_tuple(depth, inside=()):
    return inside if depth == 0 else (nested_tuple(depth - 1, inside),)


def nested_list(depth):
    return [] if depth == 0 else [nested_list(depth - 1)]


def nested_dict(depth):
    return {} if depth == 0 else {0: nested_dict(depth - 1)}


def things():
    """Things of every kind that an argument may be; none of them is a number from 0 to 2000,
    a tuple of parts, a list of parts, or a string that is a right text."""
    return [
        None, True, False, -1, 10 ** 59, -(10 ** 59), "", "0", "size", "(0, 1)", b"", b"ab", bytearray(b"ab"),
        memoryview(b"ab"), range(0), range(3), slice(1, 2), [None], [True], ["0"], {}, {0: 1}, {(0,): 2}, (None,),
        (True,), (False,), ("0",), (b"a",), ([],), ([0],), ((0,),), ((),), ({},), (0, None), (0, "1"), (0, True),
        (10 ** 59,), (-1,), len, nested_tuple, int, Web, NoPart, Ellipsis, NotImplemented, object(), iter([0]),
        (part for part in (0, 1)), nested_tuple(40), nested_tuple(39, (0,)), nested_list(40), nested_dict(40),
        (nested_list(39),), (0, nested_tuple(39)), BadWeb(0), NoPart(), TooMany(7), row(2), (row(2),), (0, row(2)),
        Run(row(2), ()), (Run(row(2), ()),), {0: row(3)}, {"size": 2, "ties": ()}, List(2, ((0,), (1,))),
        (List(1, ((),)),), ((0,), List(1, ((),))), [List(1, ((),))], Net(2, ((0, 1),)), (Net(1, ()),), [Net(1, ())],
        (0, Net(1, ())), (2, (), Net(1, ())), ((0,), Net(1, ())), Board(row(2)), (Board(row(2)),), Desk(), (0, Desk()),
    ]


def no_numbers():
    """No integers at all."""
    return [thing for thing in things() if not isinstance(thing, int) or isinstance(thing, bool)] + [(), (0,), [], [0]]


def no_parts(size):
    return no_numbers() + [-1, -size, size, size + 1, 24 + size, 10 ** 59, -(10 ** 59)]


def no_lots(size):
    """What is no lot of a web of so many parts; lists are none."""
    return things() + [
        [], [0], 0, 1, "-", (size,), (0, size), (0, 0), (-1,), (-1, 0), (size - 1, size - 1), (size - 1, -1),
        tuple(range(size + 1)), tuple(reversed(range(size))) + (0,),
    ]


def random_web(size, part_in_ten, seed):
    luck = Random(seed)
    pairs = combinations(range(size), 2)
    return Web(size, tuple(pair for pair in pairs if luck.randrange(10) < part_in_ten))


def all_webs(size):
    """Every web of so many parts."""
    pairs = list(combinations(range(size), 2))
    return [Web(size, ties) for many in range(len(pairs) + 1) for ties in combinations(pairs, many)]


def small_webs():
    """All webs of one to four parts, and some of five to eight."""
    webs = [web for size in range(1, 5) for web in all_webs(size)]
    webs += [random_web(size, tenth, size * 10 + tenth) for size in range(5, 9) for tenth in (0, 2, 3, 5, 7, 10)]
    return webs + [make(size) for make in (row, ring, full) for size in range(5, 9)]


def webs_of_24():
    return [row(24), ring(24), full(24), Web(24, ())] + [random_web(24, tenth, tenth) for tenth in (1, 3, 6, 9)]


def big_webs():
    """Webs of more than 24 parts, which were returned."""
    some = random_web(24, 3, 5)
    return [
        beside(row(24), ring(3)), joined(full(24), Web(24, ())), put_in(row(24), 11, some), copied(ring(24), 6),
        beside(some, copied(full(3), 6)), copied(beside(row(24), full(24)), 3), joined(joined(some, some), some),
        copied(copied(row(24), 5), 6),
    ]


@lru_cache(maxsize=100)
def near_by(size, ties):
    found = {part: set() for part in range(size)}
    for a, b in ties:
        found[a].add(b)
        found[b].add(a)
    return {part: frozenset(tied) for part, tied in found.items()}


def near(web):
    """The dict from parts to the sets of the parts tied to them."""
    return near_by(web.size, web.ties)


def all_lots(size):
    return sorted(lot for many in range(size + 1) for lot in combinations(range(size), many))


def is_free(web, lot):
    return not any(pair in web.ties for pair in combinations(lot, 2))


def plain_rests(web):
    """The rests by their meaning: a part tells yes just if none tied to it does."""
    tied = near(web)
    return [lot for lot in all_lots(web.size)
            if all((part in lot) == (not tied[part] & set(lot)) for part in range(web.size))]


def no_rows(size):
    """What is no row of calls of a web of so many parts."""
    wrong = [thing for thing in things() if thing not in ((), [])]
    return wrong + [0, "-", (size,), [0, size], (-1,), [0, -1], {0: 0}, (0,) * 1001, [0] * 1001, ((0,), (0,))]


def plain_called(web, stand, part):
    """The stand behind a call, by the meaning of a call."""
    tied = near(web)[part]
    told = not [other for other in stand if other in tied]
    return tuple(sorted(set(stand) - {part} | ({part} if told else set())))


def plain_behind(web, stand, calls):
    for part in calls:
        stand = plain_called(web, stand, part)
    return stand


def plain_comes(web, stand, callable_parts=None):
    """The dict from the stands that calls of these parts, of all if None, lead to, to how many calls it takes."""
    parts = range(web.size) if callable_parts is None else callable_parts
    found, edge = {stand: 0}, [stand]
    for now in edge:
        for part in parts:
            behind = plain_called(web, now, part)
            if behind not in found:
                found[behind] = found[now] + 1
                edge.append(behind)
    return found


def plain_ends(web, stand):
    wanted = plain_rests(web)
    return sorted(behind for behind in plain_comes(web, stand) if behind in wanted)


def all_strokes(size):
    """All strokes of a web of so many parts, ascending."""
    lots = all_lots(size)
    return [(up, down) for up in lots for down in lots if up + down and not set(up) & set(down)]


def no_strokes(size):
    """What is no stroke of a web of so many parts."""
    wrong = no_lots(size)
    return things() + [(lot, ()) for lot in wrong] + [((), lot) for lot in wrong] + [(lot, (0,)) for lot in wrong] + [
        ((), ()), [(0,), ()], [(), (0,)], ((0,),), ((0,), (), ()), ((0,), (0,)), (0, ()), ((), 0), (0,), 0, (), [],
        ((0,), [0]), ([0], ()), (tuple(range(size)), (0,)), ((size - 1,), tuple(range(size))),
    ]


def held_ends(web, rest, stroke):
    """The stands that the hands may let go of, all rows of calls gone through."""
    up, down = stroke
    tied = near(web)
    left = [part for part in range(web.size) if part not in up + down]
    start = tuple(sorted(set(rest) - set(down) | set(up)))
    return [stand for stand in plain_comes(web, start, left)
            if all((part in stand) == (not tied[part] & set(stand)) for part in left)]


def plain_stroke_ends(web, rest, stroke):
    return sorted({end for stand in held_ends(web, rest, stroke) for end in plain_ends(web, stand)})


class Strokes:
    """The ends of all strokes of small webs in a plain way, each found once."""

    def __init__(self, web):
        self.web = web
        self.rests = plain_rests(web)
        self.ends = {}

    def of(self, rest, stroke):
        if (rest, stroke) not in self.ends:
            self.ends[rest, stroke] = plain_stroke_ends(self.web, rest, stroke)
        return self.ends[rest, stroke]

    def of_all(self, rests_now, stroke):
        return sorted({end for rest in rests_now for end in self.of(rest, stroke)})


def plain_lumps(web, stand):
    """The lumps by putting parts to parts that they are tied to."""
    tied = near(web)
    found = []
    for part in stand:
        joined = [lump for lump in found if tied[part] & set(lump)]
        found = [lump for lump in found if lump not in joined]
        found.append(tuple(sorted({part}.union(*joined))))
    return sorted(found)


def all_lists(most):
    """Every list of one to so many places, most at 3."""
    return [List(places, stands) for places in range(1, most + 1)
            for many in range(1, 2 ** places + 1) for stands in combinations(all_lots(places), many)]


def random_lists(places, many):
    """Lists of so many places, some with a lack and about half without one."""
    luck, found = Random(places), []
    while len(found) < many:
        stands = luck.sample(all_lots(places), luck.randrange(1, min(20, 2 ** places)))
        found.append(List(places, tuple(sorted(stands))))
        web = random_web(min(24, places + luck.randrange(5)), luck.randrange(2, 8), luck.randrange(1000))
        stands = plain_shown(web, tuple(luck.sample(range(web.size), places)))
        if len(stands) <= 64:
            found.append(List(places, stands))
    return found


def plain_shown(web, showing):
    """The stands that a web shows."""
    wanted = plain_rests(web) if web.size < 9 else rests(web)
    return tuple(sorted({tuple(place for place, part in enumerate(showing) if part in rest) for rest in wanted}))


def plain_lack(one):
    """The least lack by its meaning, or None."""
    held = [set(stand) for stand in one.stands]
    for place in range(one.places):
        if not any(place in stand for stand in held):
            return ("never", place)
    for a, b, c in combinations(range(len(held)), 3):
        places = {place for place in range(one.places) if (place in held[a]) + (place in held[b]) + (place in held[c]) > 1}
        if not any(places <= stand for stand in held):
            return ("three", a, b, c)
    return None


def plain_told(web, stand, part):
    return not near(web)[part] & set(stand)


def plain_log(web, stand, calls):
    """The log of these calls, by the meaning of a call."""
    told, now = [], stand
    for part in calls:
        told.append((part, plain_told(web, now, part)))
        now = plain_called(web, now, part)
    return (web.size, stand, tuple(told))


def logged_stands(log):
    """The stands ahead of each call of a log, and the one behind them all."""
    found = [set(log[1])]
    for part, told in log[2]:
        found.append(found[-1] - {part} | ({part} if told else set()))
    return [tuple(sorted(stand)) for stand in found]


def plain_fits(web, log):
    stands = logged_stands(log)
    return web.size == log[0] and all(plain_told(web, stands[at], part) == told for at, (part, told) in enumerate(log[2]))


def all_logs(size, most):
    """All logs of so many parts and at most so many calls."""
    calls = list(product(range(size), (False, True)))
    return [(size, stand, row) for stand in all_lots(size) for many in range(most + 1)
            for row in product(calls, repeat=many)]


def random_logs(size, calls, many):
    """Logs of so many calls, by turns of a web and of any flags, some of these with a web that fits."""
    luck, found = Random(size * 1000 + calls), []
    while len(found) < many:
        web = random_web(size, luck.randrange(1, 9), luck.randrange(1000))
        row = [luck.randrange(size) for _ in range(calls)]
        stand = tuple(part for part in range(size) if luck.randrange(2))
        found.append(plain_log(web, stand, row))
        found.append((size, stand, tuple((part, luck.randrange(4) == 0) for part in row)))
    return found[:many]


def no_logs():
    """What is no log."""
    call = (0, True)
    wrong = things() + [
        (), (2,), (2, ()), (2, (), (), ()), [2, (), ()], [2, (), (call,)], (0, (), ()), (13, (), ()), (-1, (), ()),
        (10 ** 59, (), ()), (True, (), ()), ("2", (), ()), (None, (), ()), ((2,), (), ()), ((), 2, ()), (2, (), None),
        (2, (), []), (2, (), [call]), (2, (), {}), (2, (), "yes"), (2, (), call), (2, (), (call,) * 201), (1, (1,), ()),
        (12, (12,), ()), (2, (), ((2, True),)), (12, (), ((12, False),)), (2, (), ((-1, True),)), (2, (), (call, (2, True))),
    ]
    wrong += [(2, lot, ()) for lot in no_lots(2)] + [(2, lot, (call,)) for lot in no_lots(2)]
    wrong += [(2, (), (thing,)) for thing in things() + [(0,), (0, 1), (0, 0), (0, True, 1), [0, True], 0, True, ()]
              if thing != call]
    wrong += [(2, (), (call, (0, thing))) for thing in things() + [0, 1, "yes", "no", ()] if not isinstance(thing, bool)]
    wrong += [(2, (), ((thing, False),)) for thing in no_parts(2)]
    wrong += [(thing, (), ()) for thing in no_numbers() + things()]
    return wrong


def all_nets(size):
    arrows = list(permutations(range(size), 2))
    return [Net(size, found) for many in range(len(arrows) + 1) for found in combinations(arrows, many)]


def random_net(size, tenths, seed):
    luck = Random(seed)
    return Net(size, tuple(pair for pair in permutations(range(size), 2) if luck.randrange(10) < tenths))


def same_web(case, web, size, ties):
    """The web has this size and these ties, and is what the document says a web is."""
    case.assertIsInstance(web, Web)
    case.assertEqual(web.size, size)
    case.assertIsInstance(web.ties, tuple)
    case.assertEqual(web.ties, tuple(sorted(ties)))
    case.assertTrue(all(isinstance(pair, tuple) and 0 <= pair[0] < pair[1] < size for pair in web.ties))


class Raising:
    """Mixed into test cases: checks on errors that tell what was passed."""

    def raises(self, kind, function, *passed):
        """The call raises an error of this very class; the error is returned."""
        try:
            function(*passed)
        except kind as error:
            self.assertIs(type(error), kind)
            return error
        self.fail(f"no {kind.__name__} of {function.__name__}")

    def raises_for_all(self, kind, function, ahead, wrong, behind=()):
        for thing in wrong:
            with self.subTest(function=function.__name__, thing=repr(thing)[:60]):
                self.raises(kind, function, *ahead, thing, *behind)
