"""What the tests share: things of every kind, webs, and plain ways to work things out."""

from itertools import combinations
from random import Random

from silencers.errors import BadWeb, NoPart, TooMany
from silencers.runs import Run
from silencers.webs import Web, beside, copied, full, joined, put_in, ring, row


def nested_tuple(depth, inside=()):
    return inside if depth == 0 else (nested_tuple(depth - 1, inside),)


def nested_list(depth):
    return [] if depth == 0 else [nested_list(depth - 1)]


def nested_dict(depth):
    return {} if depth == 0 else {0: nested_dict(depth - 1)}


def things():
    """Things of every kind that an argument may be; none of them is a number from 0 to 2000,
    a tuple of parts, a list of parts, or a string that is a right text."""
    return [
        None, True, False, -1, 10 ** 59, -(10 ** 59), "", "0", "size", "(0, 1)", b"", b"ab", bytearray(b"ab"),
        memoryview(b"ab"), range(0), range(3), slice(1, 2), [None], [True], ["0"], {}, {0: 1}, {(0,): 2}, (None,),
        (True,), (False,), ("0",), (b"a",), ([],), ([0],), ((0,),), ((),), ({},), (0, None), (0, "1"), (0, True),
        (10 ** 59,), (-1,), len, nested_tuple, int, Web, NoPart, Ellipsis, NotImplemented, object(), iter([0]),
        (part for part in (0, 1)), nested_tuple(40), nested_tuple(39, (0,)), nested_list(40), nested_dict(40),
        (nested_list(39),), (0, nested_tuple(39)), BadWeb(0), NoPart(), TooMany(7), row(2), (row(2),), (0, row(2)),
        Run(row(2), ()), (Run(row(2), ()),), {0: row(3)}, {"size": 2, "ties": ()},
    ]


def no_numbers():
    """No integers at all."""
    return [thing for thing in things() if not isinstance(thing, int) or isinstance(thing, bool)] + [(), (0,), [], [0]]


def no_parts(size):
    return no_numbers() + [-1, -size, size, size + 1, 24 + size, 10 ** 59, -(10 ** 59)]


def no_lots(size):
    """What is no lot of a web of so many parts; lists are none."""
    return things() + [
        [], [0], 0, 1, "-", (size,), (0, size), (0, 0), (-1,), (-1, 0), (size - 1, size - 1), (size - 1, -1),
        tuple(range(size + 1)), tuple(reversed(range(size))) + (0,),
    ]


def random_web(size, part_in_ten, seed):
    luck = Random(seed)
    pairs = combinations(range(size), 2)
    return Web(size, tuple(pair for pair in pairs if luck.randrange(10) < part_in_ten))


def all_webs(size):
    """Every web of so many parts."""
    pairs = list(combinations(range(size), 2))
    return [Web(size, ties) for many in range(len(pairs) + 1) for ties in combinations(pairs, many)]


def small_webs():
    """All webs of one to four parts, and some of five to eight."""
    webs = [web for size in range(1, 5) for web in all_webs(size)]
    webs += [random_web(size, tenth, size * 10 + tenth) for size in range(5, 9) for tenth in (0, 2, 3, 5, 7, 10)]
    return webs + [make(size) for make in (row, ring, full) for size in range(5, 9)]


def webs_of_24():
    return [row(24), ring(24), full(24), Web(24, ())] + [random_web(24, tenth, tenth) for tenth in (1, 3, 6, 9)]


def big_webs():
    """Webs of more than 24 parts, which were returned."""
    some = random_web(24, 3, 5)
    return [
        beside(row(24), ring(3)), joined(full(24), Web(24, ())), put_in(row(24), 11, some), copied(ring(24), 6),
        beside(some, copied(full(3), 6)), copied(beside(row(24), full(24)), 3), joined(joined(some, some), some),
        copied(copied(row(24), 5), 6),
    ]


def near(web):
    """The dict from parts to the sets of the parts tied to them."""
    found = {part: set() for part in range(web.size)}
    for a, b in web.ties:
        found[a].add(b)
        found[b].add(a)
    return found


def all_lots(size):
    return sorted(lot for many in range(size + 1) for lot in combinations(range(size), many))


def is_free(web, lot):
    return not any(pair in web.ties for pair in combinations(lot, 2))


def plain_rests(web):
    """The rests by their meaning: a part tells yes just if none tied to it does."""
    tied = near(web)
    return [lot for lot in all_lots(web.size)
            if all((part in lot) == (not tied[part] & set(lot)) for part in range(web.size))]


def same_web(case, web, size, ties):
    """The web has this size and these ties, and is what the document says a web is."""
    case.assertIsInstance(web, Web)
    case.assertEqual(web.size, size)
    case.assertIsInstance(web.ties, tuple)
    case.assertEqual(web.ties, tuple(sorted(ties)))
    case.assertTrue(all(isinstance(pair, tuple) and 0 <= pair[0] < pair[1] < size for pair in web.ties))


class Raising:
    """Mixed into test cases: checks on errors that tell what was passed."""

    def raises(self, kind, function, *passed):
        """The call raises an error of this very class; the error is returned."""
        try:
            function(*passed)
        except kind as error:
            self.assertIs(type(error), kind)
            return error
        self.fail(f"no {kind.__name__} of {function.__name__}")

    def raises_for_all(self, kind, function, ahead, wrong, behind=()):
        for thing in wrong:
            with self.subTest(function=function.__name__, thing=repr(thing)[:60]):
                self.raises(kind, function, *ahead, thing, *behind)
