"""What the other files share: judging numbers, parts and lots, and lots as bits.

As bits a lot is an integer in which bit k is set if part k is of the lot.
"""

from silencers.errors import NoLot, NoNumber, NoPart, NoStand


def is_integer(thing):
    return isinstance(thing, int) and not isinstance(thing, bool)


def is_number(thing, least, most):
    """Whether a thing is an integer from least to most."""
    return is_integer(thing) and least <= thing <= most


def is_part(web, thing):
    return is_number(thing, 0, web.size - 1)


def is_lot_below(size, thing):
    """Whether a thing is an ascending tuple of integers from 0 below size."""
    if not isinstance(thing, tuple):
        return False
    last = -1
    for part in thing:
        if not is_number(part, last + 1, size - 1):
            return False
        last = part
    return True


def is_lot(web, thing):
    return is_lot_below(web.size, thing)


def is_pair(thing):
    return isinstance(thing, tuple) and len(thing) == 2


def check_number(thing, least, most):
    if not is_number(thing, least, most):
        raise NoNumber()


def check_number_from(thing, least):
    if not is_integer(thing) or thing < least:
        raise NoNumber()


def check_part(web, thing):
    if not is_part(web, thing):
        raise NoPart()


def check_lot(web, thing):
    if not is_lot(web, thing):
        raise NoLot()


def check_stand(web, thing):
    if not is_lot(web, thing):
        raise NoStand()


def bits_of(lot):
    bits = 0
    for part in lot:
        bits |= 1 << part
    return bits


def lot_of(bits):
    lot = []
    while bits:
        low = bits & -bits
        lot.append(low.bit_length() - 1)
        bits ^= low
    return tuple(lot)


def how_many(bits):
    return f"{bits:b}".count("1")


def all_bits(web):
    return (1 << web.size) - 1


def tied_bits(web):
    """For each part, the parts tied to it, as bits."""
    tied = [0] * web.size
    for a, b in web.ties:
        tied[a] |= 1 << b
        tied[b] |= 1 << a
    return tied


def tied_to_any(tied, bits):
    """The parts tied to one of these or more, all as bits."""
    found = 0
    for part in lot_of(bits):
        found |= tied[part]
    return found


def hanging(tied, seed, inside):
    """The parts inside that hang together with the seed by ties, all as bits."""
    found = seed
    edge = seed
    while edge:
        fresh = tied_to_any(tied, edge) & inside & ~found
        found |= fresh
        edge = fresh
    return found


def pieces_of(tied, inside):
    """The pieces into which the parts inside fall, each as bits, ascending by least parts."""
    left = inside
    found = []
    while left:
        piece = hanging(tied, left & -left, left)
        found.append(piece)
        left ^= piece
    return found


def tie_inside(tied, inside):
    """A pair of tied parts inside, or None."""
    for part in lot_of(inside):
        both = tied[part] & inside
        if both:
            return (part, lot_of(both)[0])
    return None


def untied_to(tied, bits, inside):
    """The parts inside that are neither of these bits nor tied to one of them, as bits."""
    return inside & ~bits & ~tied_to_any(tied, bits)


def grown(tied, bits, inside):
    """These free parts with each part inside, the least first, that leaves them free, as bits."""
    found = bits
    for part in lot_of(untied_to(tied, bits, inside)):
        if not tied[part] & found:
            found |= 1 << part
    return found


def lead_and_length(first, step):
    """The least numbers such that so many steps lead where length more of them lead."""
    number = {}
    now = first
    while now not in number:
        number[now] = len(number)
        now = step(now)
    return (number[now], len(number) - number[now])
