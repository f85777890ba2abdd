"""Stores: rests each of which some stroke writes over each other one."""

from itertools import combinations

from silencers.calls import is_rest
from silencers.errors import NoLetters, TooMany
from silencers.parts import bits_of, check_number, tied_bits
from silencers.rests import check_few_rests, rests
from silencers.strokes import Hands, is_stroke, strokes_holding

MOST_LETTERS = 12
MOST_HELD = 3
MOST_PARTS_TRIED = 10
MOST_RESTS_TRIED = 8


def check_letters(web, thing):
    if not isinstance(thing, tuple) or not 1 <= len(thing) <= MOST_LETTERS:
        raise NoLetters()
    for letter in thing:
        if not is_rest(web, letter):
            raise NoLetters()
    if len(set(thing)) != len(thing):
        raise NoLetters()


def check_search(web, held):
    check_number(held, 1, MOST_HELD)
    if web.size > MOST_PARTS_TRIED:
        raise TooMany(MOST_PARTS_TRIED)


def strokes_to_try(web, held):
    """The strokes that hold so many parts or fewer, fewest first."""
    return [stroke for many in range(1, held + 1) for stroke in sorted(strokes_holding(web, many))]


def common_end(tied, stroke, letters):
    """The rest, in bits, that all courses from all letters lead to, or None."""
    hands = Hands(tied, stroke)
    found = [hands.sole_end(bits_of(letter)) for letter in letters]
    return found[0] if found.count(found[0]) == len(found) else None


def strokes_between(web, letters, held):
    check_letters(web, letters)
    check_search(web, held)
    tied = tied_bits(web)
    found = {}
    for stroke in strokes_to_try(web, held):
        end = common_end(tied, stroke, letters)
        if end is not None:
            found.setdefault(end, stroke)
    return tuple([found.get(bits_of(letter)) for letter in letters])


def is_store(web, letters, thing):
    check_letters(web, letters)
    if not isinstance(thing, tuple) or len(thing) != len(letters):
        return False
    tied = tied_bits(web)
    for letter, stroke in zip(letters, thing):
        if not is_stroke(web, stroke) or common_end(tied, stroke, letters) != bits_of(letter):
            return False
    return True


def written_over(web, found, held):
    """For each rest, the lots of numbers of rests, as bits, all of which one stroke leads to it."""
    tied = tied_bits(web)
    number = {bits_of(rest): at for at, rest in enumerate(found)}
    lots = [{} for _ in found]
    for stroke in strokes_to_try(web, held):
        hands = Hands(tied, stroke)
        ends = [hands.sole_end(bits) for bits in number]
        for end in ends:
            if end is not None:
                lots[number[end]][bits_of([at for at, other in enumerate(ends) if other == end])] = True
    return [list(lot) for lot in lots]


def are_letters(over, chosen):
    """Whether each of the rests with these numbers is written over all of them by one stroke."""
    bits = bits_of(chosen)
    for number in chosen:
        if not [lot for lot in over[number] if not bits & ~lot]:
            return False
    return True


def best_letters(web, held):
    check_search(web, held)
    check_few_rests(web, MOST_RESTS_TRIED)
    found = rests(web)
    over = written_over(web, found, held)
    for many in range(len(found), 1, -1):
        for chosen in combinations(range(len(found)), many):
            if are_letters(over, chosen):
                return tuple([found[number] for number in chosen])
    return (found[0],)
