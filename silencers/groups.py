"""Parts of a web that are called at the same moment."""

from silencers.calls import told_by
from silencers.parts import bits_of, check_lot, check_stand, is_lot, is_pair, lead_and_length, lot_of, tied_bits


def behind_all_at_once(tied, bits, lot):
    """The stand, as bits, behind a call of all parts of the lot at the same moment."""
    told = bits_of([part for part in lot if told_by(tied, bits, part)])
    return (bits & ~bits_of(lot)) | told


def called_at_once(web, stand, lot):
    check_stand(web, stand)
    check_lot(web, lot)
    return lot_of(behind_all_at_once(tied_bits(web), bits_of(stand), lot))


def at_once_end(web, stand, lot):
    check_stand(web, stand)
    check_lot(web, lot)
    tied = tied_bits(web)
    return lead_and_length(bits_of(stand), lambda bits: behind_all_at_once(tied, bits, lot))


def restless(web):
    """Two tied parts, called at once, tell yes and no in turn while nothing else tells yes."""
    return ((), web.ties[0]) if web.ties else None


def is_restless(web, thing):
    if not is_pair(thing) or not is_lot(web, thing[0]) or not is_lot(web, thing[1]):
        return False
    return at_once_end(web, thing[0], thing[1])[1] > 1
