"""Rests that come again when parts of them have fallen, and webs that heal."""

from silencers.calls import behind_row, changed_by, is_row
from silencers.coming import end_with, row_between
from silencers.making import web_for
from silencers.parts import bits_of, check_number, check_number_from, how_many
from silencers.parts import is_lot, is_pair, lot_of, tied_bits
from silencers.rests import check_part_beside, check_rest, rests
from silencers.webs import copied

MOST_FALLEN = 3


def weak_part(tied, rest):
    """The pair (number, part): a part not of the rest that is tied to the fewest, so many, of it, or None."""
    found = None
    for part, near in enumerate(tied):
        many = how_many(near & rest)
        if not (rest >> part) & 1 and (found is None or many < found[0]):
            found = (many, part)
    return found


def row_with(tied, stand, part):
    """A row from a stand to a rest with this part, which is of the stand or untied to it."""
    return row_between(tied, stand, end_with(tied, stand, part, (1 << len(tied)) - 1))


def heals(web, rest, many):
    check_rest(web, rest)
    check_number_from(many, 0)
    weak = weak_part(tied_bits(web), bits_of(rest))
    return weak is None or weak[0] > many


def harm(web, rest, many):
    if heals(web, rest, many):
        return None
    tied = tied_bits(web)
    part = weak_part(tied, bits_of(rest))[1]
    fallen = bits_of(rest) & tied[part]
    return (lot_of(fallen), row_with(tied, bits_of(rest) & ~fallen, part))


def strength_of(tied, rest):
    weak = weak_part(tied, rest)
    return None if weak is None else weak[0] - 1


def strength(web, rest):
    check_rest(web, rest)
    return strength_of(tied_bits(web), bits_of(rest))


def is_fallen(web, rest, many, thing):
    """Whether a thing is a lot of parts of the rest, so many or fewer."""
    return is_lot(web, thing) and len(thing) <= many and not bits_of(thing) & ~bits_of(rest)


def is_harm(web, rest, many, thing):
    check_rest(web, rest)
    check_number_from(many, 0)
    if not is_pair(thing) or not is_fallen(web, rest, many, thing[0]) or not is_row(web, thing[1]):
        return False
    tied = tied_bits(web)
    end = behind_row(tied, bits_of(rest) & ~bits_of(thing[0]), thing[1])
    return end != bits_of(rest) and not changed_by(tied, end)


def slip(web, rest, part):
    check_part_beside(web, rest, part)
    return row_with(tied_bits(web), bits_of(rest) | (1 << part), part)


def weakest(web):
    found = rests(web)
    tied = tied_bits(web)
    least = (None, found[0])
    for rest in found:
        now = strength_of(tied, bits_of(rest))
        if now is not None and (least[0] is None or now < least[0]):
            least = (now, rest)
    return least


def healing_web(a_list, many):
    check_number(many, 0, MOST_FALLEN)
    found = web_for(a_list)
    if found is None:
        return None
    web, showing = found
    return (copied(web, many + 1), tuple([part * (many + 1) for part in showing]))
