"""Calls of the parts of a web, and the stands that they lead to."""

from silencers.errors import NoRow
from silencers.parts import bits_of, check_part, check_stand, is_lot, is_part, lot_of, tied_bits

MOST_CALLS = 1000


def is_row(web, thing):
    if not isinstance(thing, (list, tuple)) or len(thing) > MOST_CALLS:
        return False
    for part in thing:
        if not is_part(web, part):
            return False
    return True


def told_by(tied, bits, part):
    """The flag that the part tells when called in a stand; this and what follows are in bits."""
    return (tied[part] & bits) == 0


def behind_call(tied, bits, part):
    if told_by(tied, bits, part):
        return bits | (1 << part)
    return bits & ~(1 << part)


def behind_row(tied, bits, row):
    found = bits
    for part in row:
        found = behind_call(tied, found, part)
    return found


def changed_by(tied, bits):
    """The parts, ascending, whose call changes the stand."""
    return [part for part in range(len(tied)) if behind_call(tied, bits, part) != bits]


def tells(web, stand, part):
    check_stand(web, stand)
    check_part(web, part)
    return told_by(tied_bits(web), bits_of(stand), part)


def called(web, stand, part):
    check_stand(web, stand)
    check_part(web, part)
    return lot_of(behind_call(tied_bits(web), bits_of(stand), part))


def called_all(web, stand, row):
    check_stand(web, stand)
    if not is_row(web, row):
        raise NoRow()
    return lot_of(behind_row(tied_bits(web), bits_of(stand), row))


def changers(web, stand):
    check_stand(web, stand)
    return tuple(changed_by(tied_bits(web), bits_of(stand)))


def is_rest(web, thing):
    return is_lot(web, thing) and not changed_by(tied_bits(web), bits_of(thing))
