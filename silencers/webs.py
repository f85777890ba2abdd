"""Webs, and how they are changed, put together and made."""

from silencers.errors import BadWeb, NoLot, NoNames, NoPart
from silencers.parts import check_lot, check_number, check_part, is_number, is_part

MOST_PARTS = 24
MOST_COPIES = 6


class Web:
    """Some parts, from 0 below size, and which of them are tied; it never changes."""

    def __init__(self, size, ties):
        if not is_number(size, 1, MOST_PARTS):
            raise BadWeb("size")
        if not isinstance(ties, tuple):
            raise BadWeb("ties")
        wrong = wrong_tie(size, ties)
        if wrong is not None:
            raise BadWeb(wrong)
        self.size = size
        self.ties = ties

    def __eq__(self, other):
        return isinstance(other, Web) and self.size == other.size and self.ties == other.ties


def is_tie(size, thing):
    if not isinstance(thing, tuple) or len(thing) != 2:
        return False
    a, b = thing
    return is_number(a, 0, size - 1) and is_number(b, a + 1, size - 1)


def wrong_tie(size, ties):
    """The number of the first item that is no tie or is out of order, or None."""
    last = ()
    for at, pair in enumerate(ties):
        if not is_tie(size, pair) or pair <= last:
            return at
        last = pair
    return None


def tie_of(a, b):
    return (min(a, b), max(a, b))


def web_of_any_size(size, ties):
    """The web of these ties, in any order, each a pair of parts in either order.

    Only what is constructed is bounded, so what is put together of webs may
    have more parts than the class itself takes.
    """
    web = Web(1, ())
    web.size = size
    web.ties = tuple(sorted([tie_of(a, b) for a, b in ties]))
    return web


def tied_to(web, part):
    check_part(web, part)
    return tuple([b if a == part else a for a, b in web.ties if part in (a, b)])


def ties_without(web, a, b):
    """The ties of the web but the one of a and b, as a list: NoPart."""
    check_part(web, a)
    check_part(web, b)
    if a == b:
        raise NoPart()
    pair = tie_of(a, b)
    return [held for held in web.ties if held != pair]


def tie(web, a, b):
    return web_of_any_size(web.size, ties_without(web, a, b) + [(a, b)])


def untie(web, a, b):
    return web_of_any_size(web.size, ties_without(web, a, b))


def check_names(web, names):
    if not isinstance(names, tuple) or len(names) != web.size:
        raise NoNames()
    for name in names:
        if not is_part(web, name):
            raise NoNames()
    if len(set(names)) != web.size:
        raise NoNames()


def renamed(web, names):
    check_names(web, names)
    return web_of_any_size(web.size, [(names[a], names[b]) for a, b in web.ties])


def moved(web, by):
    """The ties of the web, its parts numbered from by on."""
    return [(a + by, b + by) for a, b in web.ties]


def numbers(low, high):
    """The numbers from low below high."""
    return list(range(low, high))


def across(some, others):
    """A tie of each of some parts with each of the others."""
    return [(a, b) for a in some for b in others]


def beside(one, other):
    ties = list(one.ties) + moved(other, one.size)
    return web_of_any_size(one.size + other.size, ties)


def joined(one, other):
    size = one.size + other.size
    ties = list(one.ties) + moved(other, one.size)
    return web_of_any_size(size, ties + across(numbers(0, one.size), numbers(one.size, size)))


def kept(web, lot):
    check_lot(web, lot)
    if not lot:
        raise NoLot()
    number = {part: at for at, part in enumerate(lot)}
    ties = [(number[a], number[b]) for a, b in web.ties if a in number and b in number]
    return web_of_any_size(len(lot), ties)


def put_in(web, part, other):
    check_part(web, part)
    size = web.size + other.size - 1
    behind = part + other.size
    number = [k if k < part else k + other.size - 1 for k in range(web.size)]
    ties = [(number[a], number[b]) for a, b in web.ties if part not in (a, b)]
    near = [number[k] for k in tied_to(web, part)]
    return web_of_any_size(size, ties + moved(other, part) + across(numbers(part, behind), near))


def copies_of(part, times):
    return numbers(part * times, (part + 1) * times)


def copied(web, times):
    check_number(times, 1, MOST_COPIES)
    ties = []
    for a, b in web.ties:
        ties.extend(across(copies_of(a, times), copies_of(b, times)))
    return web_of_any_size(web.size * times, ties)


def row(size):
    check_number(size, 1, MOST_PARTS)
    return Web(size, tuple([(k, k + 1) for k in range(size - 1)]))


def ring(size):
    open_ring = row(size)
    return tie(open_ring, 0, size - 1) if size > 2 else open_ring


def full(size):
    check_number(size, 1, MOST_PARTS)
    return Web(size, tuple([(a, b) for a in range(size) for b in range(a + 1, size)]))
