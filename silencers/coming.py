"""Which rests can come of a stand, by which calls, and by how many that change it."""

from silencers.calls import behind_call, behind_row, changed_by, is_row
from silencers.errors import TooMany
from silencers.parts import all_bits, bits_of, check_stand, grown, how_many, is_pair
from silencers.parts import lot_of, pieces_of, tie_inside, tied_bits, tied_to_any, untied_to
from silencers.rests import Tally, all_of, check_rest, every_one_of
from silencers.webs import web_of_any_size

MOST_TRIED = 12


def lumps(web, stand):
    check_stand(web, stand)
    return [lot_of(lump) for lump in pieces_of(tied_bits(web), bits_of(stand))]


def missed_lumps(tied, stand, rest):
    """The lumps without a part of the rest; this and what follows are in bits."""
    return [lump for lump in pieces_of(tied, stand) if not lump & rest]


def row_between(tied, stand, rest):
    """A row of as few calls as can be to a rest that can come of the stand.

    The parts to be silenced are called ahead of those that lead from them to
    the rest, so that each has a part tied to it still telling yes.
    """
    falling = ()
    left = stand & ~rest
    edge = stand & rest
    while left:
        edge = tied_to_any(tied, edge) & left
        left &= ~edge
        falling = lot_of(edge) + falling
    return falling + lot_of(rest & ~stand)


def rest_behind(tied, stand, row):
    """The rest that a row leads to, or None where it leads to none."""
    found = behind_row(tied, stand, row)
    return None if changed_by(tied, found) else found


def end_with(tied, stand, part, every):
    """The rest with this part that can come, for a part of the stand or one untied to it."""
    held = 1 << part
    for lump in pieces_of(tied, stand):
        if not lump & (1 << part):
            held |= lump & -lump
    return grown(tied, held, every)


def open_tie(tied, stand, inside):
    """Two tied parts such that each of them is of some rest that can come, or None."""
    return tie_inside(tied, stand) or tie_inside(tied, untied_to(tied, stand, inside))


def only_end(tied, stand, inside):
    """The rest of the parts inside, if just one can come of a stand of some of them, else None."""
    if open_tie(tied, stand, inside) is not None:
        return None
    return stand | untied_to(tied, stand, inside)


def missed(web, stand, rest):
    check_stand(web, stand)
    check_rest(web, rest)
    found = missed_lumps(tied_bits(web), bits_of(stand), bits_of(rest))
    return lot_of(found[0]) if found else None


def can_come(web, stand, rest):
    return missed(web, stand, rest) is None


def row_to(web, stand, rest):
    if missed(web, stand, rest) is not None:
        return None
    return row_between(tied_bits(web), bits_of(stand), bits_of(rest))


def is_row_to(web, stand, rest, thing):
    check_stand(web, stand)
    check_rest(web, rest)
    return is_row(web, thing) and behind_row(tied_bits(web), bits_of(stand), thing) == bits_of(rest)


class Ends:
    """Counts the rests that can come of a stand.

    For each lump it puts a part to the web that is tied to the whole lump:
    in a rest of that web such a part tells no just if the lump has a part of it.
    """

    def __init__(self, web, stand):
        found = lumps(web, stand)
        size = web.size + len(found)
        ties = list(web.ties)
        for at, lump in enumerate(found):
            ties.extend([(part, web.size + at) for part in lump])
        self.tally = Tally(web_of_any_size(size, ties), False)
        self.no = self.tally.knots_of(tuple(range(web.size, size)))

    def many(self):
        return self.tally.worth_with(0, self.no)

    def every_one(self):
        """The ascending list of them, however many."""
        return every_one_of(self.tally, self.no)

    def rests(self):
        """As every_one: TooMany."""
        return all_of(self.tally, self.no)


def ends(web, stand):
    return Ends(web, stand).rests()


def many_ends(web, stand):
    return Ends(web, stand).many()


def sure_end(web, stand):
    check_stand(web, stand)
    end = only_end(tied_bits(web), bits_of(stand), all_bits(web))
    return None if end is None else lot_of(end)


def two_ends(web, stand):
    check_stand(web, stand)
    tied = tied_bits(web)
    bits = bits_of(stand)
    pair = open_tie(tied, bits, all_bits(web))
    if pair is None:
        return None
    rows = [row_between(tied, bits, end_with(tied, bits, part, all_bits(web))) for part in pair]
    return (rows[0], rows[1])


def is_two_ends(web, stand, thing):
    check_stand(web, stand)
    if not is_pair(thing) or not is_row(web, thing[0]) or not is_row(web, thing[1]):
        return False
    tied = tied_bits(web)
    one = rest_behind(tied, bits_of(stand), thing[0])
    other = rest_behind(tied, bits_of(stand), thing[1])
    return one is not None and other is not None and one != other


def ties_inside(tied, bits):
    """Twice the number of ties of these parts."""
    return sum([how_many(tied[part] & bits) for part in lot_of(bits)])


def stands_behind(tied, stand):
    """All stands that calls lead to, each ahead of those that it leads to.

    A call that changes the stand leaves fewer ties in it, or as many and more parts.
    """
    found = {stand: True}
    waiting = [stand]
    while waiting:
        bits = waiting.pop()
        for part in changed_by(tied, bits):
            behind = behind_call(tied, bits, part)
            if behind not in found:
                found[behind] = True
                waiting.append(behind)
    return sorted(list(found), key=lambda one: (-ties_inside(tied, one), how_many(one)))


def longest_row(web, stand):
    check_stand(web, stand)
    if web.size > MOST_TRIED:
        raise TooMany(MOST_TRIED)
    tied = tied_bits(web)
    rows = {}
    for bits in reversed(stands_behind(tied, bits_of(stand))):
        longest = ()
        for part in changed_by(tied, bits):
            behind = rows[behind_call(tied, bits, part)]
            if len(behind) >= len(longest):
                longest = (part,) + behind
        rows[bits] = longest
    return rows[bits_of(stand)]


def most_changes(web, stand):
    return len(longest_row(web, stand))
