"""Webs taken apart: buildings, blocks, and what a part that is not of a rest turns."""

from silencers.coming import Ends
from silencers.errors import NoBlock, TooMany
from silencers.parts import all_bits, bits_of, how_many, is_integer, is_lot, lot_of, pieces_of, tied_bits
from silencers.rests import check_part_beside, many_rests
from silencers.webs import kept

MOST_BLOCKED = 12


def untied_bits(web):
    """For each part, the other parts that are not tied to it, as bits."""
    every = all_bits(web)
    return [every & ~near & ~(1 << part) for part, near in enumerate(tied_bits(web))]


def word_and_pieces(tied, untied, bits):
    """How some parts are built, and the parts, as bits, of the buildings that they are built of."""
    if how_many(bits) == 1:
        return ("part", [])
    found = pieces_of(tied, bits)
    if len(found) > 1:
        return ("beside", found)
    found = pieces_of(untied, bits)
    if len(found) > 1:
        return ("joined", found)
    return ("other", [])


def levels(web):
    """The triples (word, lot, numbers of the triples that it is built of), each ahead of these.

    They wait in a list instead of calls in calls, so that a web of many parts
    does not go too deep.
    """
    tied = tied_bits(web)
    untied = untied_bits(web)
    found = []
    waiting = [all_bits(web)]
    while len(found) < len(waiting):
        bits = waiting[len(found)]
        word, inner = word_and_pieces(tied, untied, bits)
        found.append((word, lot_of(bits), list(range(len(waiting), len(waiting) + len(inner)))))
        waiting.extend(inner)
    return found


def folded(web, action):
    """What the action makes of the whole web, of a word, a lot, and what it made of the buildings inside."""
    found = levels(web)
    made = {}
    for at in range(len(found) - 1, -1, -1):
        word, lot, inner = found[at]
        made[at] = action(word, lot, [made[number] for number in inner])
    return made[0]


def building_of(word, lot, inner):
    if word == "part":
        return (word, lot[0])
    return (word, lot if word == "other" else tuple(inner))


def building(web):
    return folded(web, building_of)


def is_same(thing, wanted):
    """Whether a thing is the same tuples of tuples, strings and integers, however deep; no flag is an integer."""
    waiting = [(thing, wanted)]
    while waiting:
        one, other = waiting.pop()
        if isinstance(other, tuple):
            if not isinstance(one, tuple) or len(one) != len(other):
                return False
            waiting.extend(list(zip(one, other)))
        elif isinstance(other, str):
            if not isinstance(one, str) or one != other:
                return False
        elif not is_integer(one) or one != other:
            return False
    return True


def is_building(web, thing):
    return is_same(thing, building(web))


def is_built(web):
    return "other" not in [word for word, lot, inner in levels(web)]


def product_of(numbers):
    total = 1
    for number in numbers:
        total *= number
    return total


def rests_of(web, word, lot, inner):
    """How many rests the parts of the lot have, which are built so of what has so many each."""
    if word == "other":
        return many_rests(kept(web, lot))
    return sum(inner) if word == "joined" else product_of(inner)


def rests_by(web):
    return folded(web, lambda word, lot, inner: rests_of(web, word, lot, inner))


def is_block_of(tied, bits):
    """Whether these parts, as bits, are a block."""
    every = (1 << len(tied)) - 1
    if how_many(bits) < 2 or bits == every:
        return False
    return not [part for part in lot_of(every & ~bits) if tied[part] & bits not in (0, bits)]


def blocks(web):
    if web.size > MOST_BLOCKED:
        raise TooMany(MOST_BLOCKED)
    tied = tied_bits(web)
    return sorted([lot_of(bits) for bits in range(1 << web.size) if is_block_of(tied, bits)])


def taken_out(web, lot):
    if not is_lot(web, lot) or not is_block_of(tied_bits(web), bits_of(lot)):
        raise NoBlock()
    others = tuple([part for part in range(web.size) if part == lot[0] or part not in lot])
    return (kept(web, others), kept(web, lot))


def needs(web, rest, part):
    check_part_beside(web, rest, part)
    return lot_of(tied_bits(web)[part] & bits_of(rest))


def turned_by(web, rest, part):
    check_part_beside(web, rest, part)
    return Ends(web, tuple(sorted(rest + (part,)))).every_one()
