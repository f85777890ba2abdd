"""Webs that show a list, and lists made of others."""

from itertools import combinations

from silencers.calls import changed_by
from silencers.errors import NoLot, NoStands, NotShown, OtherPlaces, TooMany
from silencers.lists import MOST_PLACES, can_be_shown, is_within, list_of, within
from silencers.parts import bits_of, is_lot_below, tied_bits
from silencers.rests import rests
from silencers.webs import across, numbers, web_of_any_size

MOST_SEARCHED = 4
MOST_INNER = 3


def ties_apart(a_list):
    """The ties of the places that no stand has together.

    Each web that shows the list has just these ties among its places: what is
    untied there is of one rest, which shows both places.
    """
    places = numbers(0, a_list.places)
    together = {pair: True for stand in a_list.stands for pair in combinations(list(stand), 2)}
    return [pair for pair in combinations(places, 2) if pair not in together]


def inner_stands(a_list):
    """The stands that are within others."""
    return [one for one in a_list.stands if [other for other in a_list.stands if is_within(one, other)]]


def web_for(a_list):
    """A web with a hidden part for each inner stand, tied to all other hidden parts and to all other places."""
    if not can_be_shown(a_list):
        return None
    inner = inner_stands(a_list)
    places = numbers(0, a_list.places)
    hidden = numbers(a_list.places, a_list.places + len(inner))
    ties = ties_apart(a_list) + list(combinations(hidden, 2))
    for part, stand in zip(hidden, inner):
        ties.extend([(place, part) for place in places if place not in stand])
    return (web_of_any_size(a_list.places + len(inner), ties), tuple(places))


def bare_web(a_list):
    if not can_be_shown(a_list) or within(a_list) is not None:
        return None
    return web_of_any_size(a_list.places, ties_apart(a_list))


def shows(web, places, stands):
    """Whether the rests show, at the first places, just these stands, which are in bits."""
    tied = tied_bits(web)
    found = {}
    for bits in range(1 << web.size):
        if changed_by(tied, bits):
            continue
        stand = bits & ((1 << places) - 1)
        if stand not in stands:
            return False
        found[stand] = True
    return len(found) == len(stands)


def is_enough(a_list, many):
    """Whether some web with so many hidden parts shows the list."""
    size = a_list.places + many
    hidden = numbers(a_list.places, size)
    apart = ties_apart(a_list)
    pairs = across(numbers(0, a_list.places), hidden) + list(combinations(hidden, 2))
    stands = {bits_of(stand): True for stand in a_list.stands}
    for choice in range(1 << len(pairs)):
        ties = [pair for at, pair in enumerate(pairs) if (choice >> at) & 1]
        if shows(web_of_any_size(size, apart + ties), a_list.places, stands):
            return True
    return False


def fewest_hidden(a_list):
    if not can_be_shown(a_list):
        raise NotShown()
    if a_list.places > MOST_SEARCHED:
        raise TooMany(MOST_SEARCHED)
    enough = len(inner_stands(a_list))
    if enough > MOST_INNER:
        raise TooMany(MOST_INNER)
    for many in range(enough):
        if is_enough(a_list, many):
            return many
    return enough


def is_part_of_any(lot, stands):
    """Whether all places of the lot are of one of the stands."""
    bits = bits_of(lot)
    return bool([stand for stand in stands if not bits & ~bits_of(stand)])


def missing(a_list):
    """The rests of the web whose ties are the places apart are the greatest lots of places together."""
    lots = rests(web_of_any_size(a_list.places, ties_apart(a_list)))
    return [lot for lot in lots if len(lot) > 1 and not is_part_of_any(lot, a_list.stands)]


def closed_up(a_list):
    return list_of(a_list.places, list(a_list.stands) + missing(a_list))


def check_places(one, other):
    if one.places != other.places:
        raise OtherPlaces()


def listed_both(one, other):
    check_places(one, other)
    both = [stand for stand in one.stands if stand in other.stands]
    if not both:
        raise NoStands()
    return list_of(one.places, both)


def listed_either(one, other):
    check_places(one, other)
    return list_of(one.places, sorted(set(one.stands + other.stands)))


def put_behind(stand, other, by):
    return stand + tuple([place + by for place in other])


def side_by_side(one, other):
    places = one.places + other.places
    if places > MOST_PLACES:
        raise TooMany(MOST_PLACES)
    return list_of(places, [put_behind(a, b, one.places) for a in one.stands for b in other.stands])


def seen_at(a_list, lot):
    if not is_lot_below(a_list.places, lot) or not lot:
        raise NoLot()
    found = {tuple([at for at, place in enumerate(lot) if place in stand]): True for stand in a_list.stands}
    return list_of(len(lot), list(found))
