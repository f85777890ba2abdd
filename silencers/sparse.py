"""What all webs that fit a log have, what some of them have, and the one of fewest ties."""

from silencers.errors import NoPart, NoWeb
from silencers.logs import behind, check_log, choices, web_of
from silencers.meeting import meeting_all
from silencers.parts import bits_of, is_number, lot_of
from silencers.webs import tie_of, web_of_any_size


def most_ties(log):
    web = web_of(log)
    if web is None:
        raise NoWeb()
    return web


def asked_ties(log):
    """For each call that told no, the list of the ties one of which must be there."""
    return [[tie_of(log[2][at][0], other) for other in lot] for at, lot in choices(log)]


def sure_ties(log):
    most_ties(log)
    return sorted(set([pairs[0] for pairs in asked_ties(log) if len(pairs) == 1]))


def open_ties(log):
    sure = sure_ties(log)
    return [pair for pair in most_ties(log).ties if pair not in sure]


def sparse_web(log):
    web = most_ties(log)
    lots = [bits_of([web.ties.index(pair) for pair in pairs]) for pairs in asked_ties(log)]
    return web_of_any_size(web.size, [web.ties[at] for at in lot_of(meeting_all(lots))])


def fewest_ties(log):
    return len(sparse_web(log).ties)


def verdict(log, part):
    check_log(log)
    if not is_number(part, 0, log[0] - 1):
        raise NoPart()
    silencing = [tie_of(part, other) for other in behind(log) if other != part]
    pairs = [pair for pair in most_ties(log).ties if pair in silencing]
    if not pairs:
        return "yes"
    for asked in asked_ties(log):
        if not [pair for pair in asked if pair not in pairs]:
            return "no"
    return "open"
