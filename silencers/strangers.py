"""Strangers: functions of a stand that tell which part is called next."""

from silencers.calls import called, is_rest
from silencers.errors import BadCall, TooMany
from silencers.parts import check_number, check_stand, is_part, lead_and_length, lot_of

MOST_LED = 1000
MOST_ASKED_PARTS = 10


def behind_asked(web, stand, stranger):
    """The stand behind the call that the stranger tells of this one: BadCall."""
    part = stranger(stand)
    if not is_part(web, part):
        raise BadCall(stand)
    return called(web, stand, part)


def led(web, stand, stranger, many):
    check_stand(web, stand)
    check_number(many, 0, MOST_LED)
    now = stand
    for _ in range(many):
        now = behind_asked(web, now, stranger)
    return now


def led_end(web, stand, stranger):
    check_stand(web, stand)
    return lead_and_length(stand, lambda now: behind_asked(web, now, stranger))


def lazy(web, stranger):
    if web.size > MOST_ASKED_PARTS:
        raise TooMany(MOST_ASKED_PARTS)
    stands = sorted([lot_of(bits) for bits in range(1 << web.size)])
    # It is asked of all of them, as a BadCall goes ahead of any answer.
    behind = [(stand, behind_asked(web, stand, stranger)) for stand in stands if not is_rest(web, stand)]
    unchanged = [stand for stand, end in behind if end == stand]
    return unchanged[0] if unchanged else None
