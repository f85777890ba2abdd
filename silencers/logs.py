"""Logs of calls: which webs fit them, and which ties they bar or ask for."""

from itertools import combinations

from silencers.calls import behind_call, is_row, told_by
from silencers.errors import NoLog, NoRow, OtherSize, TooMany
from silencers.parts import bits_of, check_stand, is_lot_below, is_number, is_pair, lot_of, tied_bits
from silencers.webs import web_of_any_size

MOST_LOGGED_PARTS = 12
MOST_LOGGED_CALLS = 200


def is_told_call(size, thing):
    return is_pair(thing) and is_number(thing[0], 0, size - 1) and isinstance(thing[1], bool)


def is_log(thing):
    if not isinstance(thing, tuple) or len(thing) != 3:
        return False
    size, stand, calls = thing
    if not is_number(size, 1, MOST_LOGGED_PARTS) or not is_lot_below(size, stand):
        return False
    if not isinstance(calls, tuple) or len(calls) > MOST_LOGGED_CALLS:
        return False
    for call in calls:
        if not is_told_call(size, call):
            return False
    return True


def check_log(thing):
    if not is_log(thing):
        raise NoLog()


def behind_told(bits, part, told):
    """The stand behind a call that told this, as bits."""
    return bits | (1 << part) if told else bits & ~(1 << part)


def stands_of(log):
    """The stands ahead of each call, and the one behind all of them, as bits."""
    found = [bits_of(log[1])]
    for part, told in log[2]:
        found.append(behind_told(found[-1], part, told))
    return found


def calls_of(log):
    """The triples (part, what it told, the stand ahead of it as bits) of the calls."""
    return [(part, told, ahead) for (part, told), ahead in zip(log[2], stands_of(log))]


def first_wrong(web, log):
    """As wrong_call, for a log of as many parts."""
    tied = tied_bits(web)
    for at, (part, told, ahead) in enumerate(calls_of(log)):
        if told_by(tied, ahead, part) != told:
            return at
    return None


def fits(web, log):
    check_log(log)
    return web.size == log[0] and first_wrong(web, log) is None


def wrong_call(web, log):
    check_log(log)
    if web.size != log[0]:
        raise OtherSize()
    return first_wrong(web, log)


def behind(log):
    check_log(log)
    return lot_of(stands_of(log)[-1])


def barred_bits(log):
    """For each part, the parts with which its tie is barred, as bits."""
    found = [0] * log[0]
    for part, told, ahead in calls_of(log):
        if told:
            others = ahead & ~(1 << part)
            found[part] |= others
            for other in lot_of(others):
                found[other] |= 1 << part
    return found


def barred(log):
    check_log(log)
    return [(a, b) for a, others in enumerate(barred_bits(log)) for b in lot_of(others) if a < b]


def choices(log):
    check_log(log)
    apart = barred_bits(log)
    return [(at, lot_of(ahead & ~apart[part] & ~(1 << part)))
            for at, (part, told, ahead) in enumerate(calls_of(log)) if not told]


def stuck_call(log):
    for at, lot in choices(log):
        if not lot:
            return at
    return None


def web_of(log):
    """The web with all ties that are not barred, if any fits."""
    if stuck_call(log) is not None:
        return None
    apart = barred(log)
    return web_of_any_size(log[0], [pair for pair in combinations(range(log[0]), 2) if pair not in apart])


def same_log(web, stand, row):
    check_stand(web, stand)
    if not is_row(web, row):
        raise NoRow()
    if len(row) > MOST_LOGGED_CALLS:
        raise TooMany(MOST_LOGGED_CALLS)
    if web.size > MOST_LOGGED_PARTS:
        raise TooMany(MOST_LOGGED_PARTS)
    tied = tied_bits(web)
    bits = bits_of(stand)
    calls = []
    for part in row:
        calls.append((part, told_by(tied, bits, part)))
        bits = behind_call(tied, bits, part)
    return (web.size, stand, tuple(calls))
