"""What hands must put to a stand for a rest to come, and the rests that falling parts lead to."""

from silencers.coming import missed_lumps
from silencers.errors import TooMany
from silencers.meeting import meeting_all
from silencers.parts import bits_of, check_number_from, check_stand, how_many, lot_of, tied_bits, tied_to_any
from silencers.rests import check_rest, rests

MOST_DRIFTING = 10


def puts(web, stand, rest):
    check_stand(web, stand)
    check_rest(web, rest)
    tied = tied_bits(web)
    bits = bits_of(rest)
    lots = [tied_to_any(tied, lump) & bits for lump in missed_lumps(tied, bits_of(stand), bits)]
    return lot_of(meeting_all(lots))


def fewest_puts(web, stand, rest):
    return len(puts(web, stand, rest))


def drift(web, rest, many):
    check_rest(web, rest)
    check_number_from(many, 0)
    if web.size > MOST_DRIFTING:
        raise TooMany(MOST_DRIFTING)
    left = rests(web)
    found = []
    waiting = [rest]
    while waiting:
        now = bits_of(waiting[-1])
        found.append(waiting.pop())
        near = [other for other in left if how_many(now & ~bits_of(other)) <= many and other not in found]
        waiting.extend([other for other in near if other not in waiting])
    return sorted(found)
