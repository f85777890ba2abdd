"""Lists of stands: what the rests of a web show at some places, and what no web shows."""

from itertools import combinations

from silencers.errors import BadList, NoShowing, TooMany
from silencers.parts import bits_of, is_lot_below, is_number, is_part
from silencers.rests import rests

MOST_PLACES = 12
MOST_STANDS = 64


class List:
    """Some places, from 0 below places, and the stands that are shown at them; it never changes."""

    def __init__(self, places, stands):
        if not is_number(places, 1, MOST_PLACES):
            raise BadList("places")
        if not isinstance(stands, tuple) or not 1 <= len(stands) <= MOST_STANDS:
            raise BadList("stands")
        wrong = wrong_stand(places, stands)
        if wrong is not None:
            raise BadList(wrong)
        self.places = places
        self.stands = stands

    def __eq__(self, other):
        return isinstance(other, List) and self.places == other.places and self.stands == other.stands


def wrong_stand(places, stands):
    """The number of the first item that is no lot of places or is out of order, or None."""
    last = None
    for at, stand in enumerate(stands):
        if not is_lot_below(places, stand):
            return at
        if last is not None and stand <= last:
            return at
        last = stand
    return None


def list_of(places, stands):
    """The List of unlike stands in any order: TooMany."""
    if len(stands) > MOST_STANDS:
        raise TooMany(MOST_STANDS)
    return List(places, tuple(sorted(stands)))


def is_showing_of(web, thing):
    """Whether a thing is a tuple of unlike parts of the web, one for each of 1 to 12 places."""
    if not isinstance(thing, tuple) or not 1 <= len(thing) <= MOST_PLACES:
        return False
    for part in thing:
        if not is_part(web, part):
            return False
    return len(set(thing)) == len(thing)


def seen_by(showing, bits):
    """The stand that a rest, in bits, shows."""
    return tuple([place for place, part in enumerate(showing) if (bits >> part) & 1])


def shown_stands(web, showing):
    """The ascending list of the stands that the rests of a web show: TooMany."""
    found = {seen_by(showing, bits_of(rest)): True for rest in rests(web)}
    return sorted(list(found))


def shown(web, showing):
    if not is_showing_of(web, showing):
        raise NoShowing()
    return list_of(len(showing), shown_stands(web, showing))


def is_showing(web, a_list, showing):
    if not is_showing_of(web, showing) or len(showing) != a_list.places:
        return False
    return tuple(shown_stands(web, showing)) == a_list.stands


def is_shown(a_list, place):
    """Whether some stand has this place."""
    for stand in a_list.stands:
        if place in stand:
            return True
    return False


def are_held(held, places):
    """Whether one of these stands has all these places; both in bits."""
    for bits in held:
        if not places & ~bits:
            return True
    return False


def mostly(held, a, b, c):
    """The places that two or three of these stands have."""
    return (held[a] & held[b]) | (held[a] & held[c]) | (held[b] & held[c])


def lack(a_list):
    for place in range(a_list.places):
        if not is_shown(a_list, place):
            return ("never", place)
    held = [bits_of(stand) for stand in a_list.stands]
    known = {}
    for a, b, c in combinations(range(len(held)), 3):
        places = mostly(held, a, b, c)
        if places not in known:
            known[places] = are_held(held, places)
        if not known[places]:
            return ("three", a, b, c)
    return None


def is_never(a_list, thing):
    if len(thing) != 2 or not is_number(thing[1], 0, a_list.places - 1):
        return False
    return thing[0] == "never" and not is_shown(a_list, thing[1])


def is_three(a_list, thing):
    if len(thing) != 4 or thing[0] != "three":
        return False
    if not is_lot_below(len(a_list.stands), thing[1:]):
        return False
    held = [bits_of(stand) for stand in a_list.stands]
    return not are_held(held, mostly(held, thing[1], thing[2], thing[3]))


def is_lack(a_list, thing):
    if not isinstance(thing, tuple) or not thing or not isinstance(thing[0], str):
        return False
    return is_never(a_list, thing) or is_three(a_list, thing)


def can_be_shown(a_list):
    return lack(a_list) is None


def is_within(one, other):
    """Whether a stand is a part of another one."""
    return one != other and not bits_of(one) & ~bits_of(other)


def within(a_list):
    for i, one in enumerate(a_list.stands):
        for j, other in enumerate(a_list.stands):
            if is_within(one, other):
                return (i, j)
    return None
