"""Nets: parts that silence others one way, the rests of such, and rounds.

Nets are made of 12 parts at most; a net of more comes of a web, so each of
its arrows goes both ways, and what is known of webs holds for it. Stands are
in bits inside, and so are, for each part, those that silence it.
"""

from silencers.calls import behind_call, changed_by
from silencers.coming import Ends, row_to
from silencers.errors import BadNet, NoRest
from silencers.parts import bits_of, check_part, check_stand, is_lot, is_number, is_pair, is_part, lot_of
from silencers.rests import every_rest
from silencers.webs import web_of_any_size

MOST_NET_PARTS = 12


class Net:
    """Some parts, from 0 below size, and which of them silence which; it never changes."""

    def __init__(self, size, arrows):
        if not is_number(size, 1, MOST_NET_PARTS):
            raise BadNet("size")
        if not isinstance(arrows, tuple):
            raise BadNet("arrows")
        wrong = wrong_arrow(size, arrows)
        if wrong is not None:
            raise BadNet(wrong)
        self.size = size
        self.arrows = arrows

    def __eq__(self, other):
        return isinstance(other, Net) and self.size == other.size and self.arrows == other.arrows


def is_arrow(size, thing):
    if not is_pair(thing):
        return False
    a, b = thing
    return is_number(a, 0, size - 1) and is_number(b, 0, size - 1) and a != b


def wrong_arrow(size, arrows):
    """The number of the first item that is no arrow or is out of order, or None."""
    last = ()
    for at, pair in enumerate(arrows):
        if not is_arrow(size, pair) or pair <= last:
            return at
        last = pair
    return None


def net_of(web):
    net = Net(1, ())
    net.size = web.size
    net.arrows = tuple(sorted(list(web.ties) + [(b, a) for a, b in web.ties]))
    return net


def web_behind(net):
    """The web that a net came of, or None if it may not come of one."""
    if net.size <= MOST_NET_PARTS:
        return None
    return web_of_any_size(net.size, [(a, b) for a, b in net.arrows if a < b])


def silencing_bits(net):
    """For each part, those that silence it."""
    found = [0] * net.size
    for a, b in net.arrows:
        found[b] |= 1 << a
    return found


def silenced_by(net):
    """For each part, the list of those that it silences."""
    found = [[] for _ in range(net.size)]
    for a, b in net.arrows:
        found[a].append(b)
    return found


def is_net_rest(net, thing):
    return is_lot(net, thing) and not changed_by(silencing_bits(net), bits_of(thing))


def check_net_rest(net, thing):
    if not is_net_rest(net, thing):
        raise NoRest()


def net_called(net, stand, part):
    check_stand(net, stand)
    check_part(net, part)
    return lot_of(behind_call(silencing_bits(net), bits_of(stand), part))


def net_rests(net):
    web = web_behind(net)
    if web is not None:
        return every_rest(web)
    near = silencing_bits(net)
    return sorted([lot_of(bits) for bits in range(1 << net.size) if not changed_by(near, bits)])


def rows_from(near, start):
    """The dict from the stands to which calls that change the stand lead, one or more, to shortest such rows."""
    rows = {}
    waiting = [(start, ())]
    at = 0
    while at < len(waiting):
        bits, row = waiting[at]
        at += 1
        for part in changed_by(near, bits):
            behind = behind_call(near, bits, part)
            if behind not in rows:
                rows[behind] = row + (part,)
                waiting.append((behind, rows[behind]))
    return rows


def net_comes(net, stand):
    check_stand(net, stand)
    web = web_behind(net)
    if web is not None:
        return Ends(web, stand).every_one()
    near = silencing_bits(net)
    found = [bits_of(stand)] + list(rows_from(near, bits_of(stand)))
    return sorted(set([lot_of(bits) for bits in found if not changed_by(near, bits)]))


def net_row(net, stand, rest):
    check_stand(net, stand)
    check_net_rest(net, rest)
    web = web_behind(net)
    if web is not None:
        return row_to(web, stand, rest)
    if stand == rest:
        return ()
    return rows_from(silencing_bits(net), bits_of(stand)).get(bits_of(rest))


def going_on(near, stands):
    """The dict from the stands from which calls can change the stand for ever to the stands of one more such call.

    Stands from which none of these goes on are left out, one behind another.
    """
    behind = {bits: [behind_call(near, bits, part) for part in changed_by(near, bits)] for bits in stands}
    ahead = {bits: [] for bits in behind}
    for start, found in behind.items():
        for end in found:
            ahead[end].append(start)
    left = {bits: len(behind[bits]) for bits in behind}
    waiting = [bits for bits in left if not left[bits]]
    while waiting:
        still = waiting.pop()
        for start in ahead[still]:
            left[start] -= 1
            if not left[start]:
                waiting.append(start)
    return {bits: [other for other in behind[bits] if left[other]] for bits in behind if left[bits]}


def coming_again(near, stands):
    """One of the stands to which calls that change it can lead back, or None."""
    ways = going_on(near, stands)
    if not ways:
        return None
    seen = {}
    now = list(ways)[0]
    while now not in seen:
        seen[now] = True
        now = ways[now][0]
    return now


def net_round(net, stand):
    check_stand(net, stand)
    if web_behind(net) is not None:
        return None
    near = silencing_bits(net)
    start = bits_of(stand)
    rows = rows_from(near, start)
    again = coming_again(near, [start] + list(rows))
    if again is None:
        return None
    first = () if again == start else rows[again]
    return (first, rows_from(near, again)[again])


def is_round(net, thing):
    """Whether a thing is a tuple of unlike parts each of which silences the next, and the last the first."""
    if not isinstance(thing, tuple) or not thing:
        return False
    for part in thing:
        if not is_part(net, part):
            return False
    if len(set(thing)) != len(thing):
        return False
    return not [at for at, part in enumerate(thing) if (thing[at - 1], part) not in net.arrows]


def is_any_round(net, thing):
    return is_round(net, thing)


def is_odd_round(net, thing):
    return is_round(net, thing) and len(thing) % 2 == 1


def shortest_way_back(ahead, start, by):
    """The shortest row of parts from a part on, each silencing the next and the last the first, or None.

    Its length is 1 more than what can be divided by this number.
    """
    seen = {}
    waiting = [(start, 0, ())]
    at = 0
    while at < len(waiting):
        part, left, way = waiting[at]
        at += 1
        if part == start and way and left == 1 % by:
            return way
        for other in ahead[part]:
            place = (other, (left + 1) % by)
            if place not in seen:
                seen[place] = True
                waiting.append(place + (way + (part,),))
    return None


def shortest_round(net, by):
    """The shortest of all such rows, or None; no part is in it twice, as a shorter one would do then."""
    ahead = silenced_by(net)
    ways = [shortest_way_back(ahead, part, by) for part in range(net.size)]
    found = [way for way in ways if way is not None]
    return min(found, key=len) if found else None


def odd_round(net):
    return shortest_round(net, 2)


def any_round(net):
    return shortest_round(net, 1)


def only_rest(net):
    near = silencing_bits(net)
    left = list(range(net.size))
    known = 0
    rest = 0
    while left:
        ready = [part for part in left if not near[part] & ~known]
        if not ready:
            return None
        for part in ready:
            known |= 1 << part
            if not near[part] & rest:
                rest |= 1 << part
        left = [part for part in left if part not in ready]
    return lot_of(rest)
