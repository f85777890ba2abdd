"""Chances of rests and mean numbers of calls, if each time each part is called next alike likely."""

from math import gcd

from silencers.calls import behind_call, changed_by
from silencers.coming import stands_behind
from silencers.errors import TooMany
from silencers.parts import bits_of, check_stand, lot_of, tied_bits

MOST_CHANCED = 10


def fraction(top, bottom):
    """The pair of these in lowest terms."""
    divisor = gcd(top, bottom)
    return (top // divisor, bottom // divisor)


def added(one, other):
    return fraction(one[0] * other[1] + other[0] * one[1], one[1] * other[1])


def times(chance, top, bottom):
    return fraction(chance[0] * top, chance[1] * bottom)


def visits(web, stand):
    """The triples (stand, the parts that change it, the chance that it is come to), in bits: NoStand, TooMany.

    No stand is come to again once it was left, and the next one is that behind
    each of the parts that change it alike likely.
    """
    check_stand(web, stand)
    if web.size > MOST_CHANCED:
        raise TooMany(MOST_CHANCED)
    tied = tied_bits(web)
    start = bits_of(stand)
    chances = {start: (1, 1)}
    found = []
    for bits in stands_behind(tied, start):
        changing = changed_by(tied, bits)
        found.append((bits, changing, chances[bits]))
        for part in changing:
            behind = behind_call(tied, bits, part)
            chances[behind] = added(chances.get(behind, (0, 1)), times(chances[bits], 1, len(changing)))
    return found


def end_chances(web, stand):
    found = [(lot_of(bits), chance) for bits, changing, chance in visits(web, stand) if not changing]
    return {rest: chance for rest, chance in sorted(found)}


def mean_calls(web, stand):
    mean = (0, 1)
    for _, changing, chance in visits(web, stand):
        if changing:
            mean = added(mean, times(chance, web.size, len(changing)))
    return mean
