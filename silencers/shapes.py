"""The shape of a web: its pieces, its twins, and whether it is another one renamed."""

from itertools import permutations

from silencers.errors import TooMany
from silencers.parts import all_bits, lot_of, pieces_of, tied_bits

MOST_RENAMED = 7


def pieces(web):
    return [lot_of(piece) for piece in pieces_of(tied_bits(web), all_bits(web))]


def alike(web):
    """The lots, ascending, of parts that are all tied to the same parts, single parts too."""
    found = {}
    for part, near in enumerate(tied_bits(web)):
        found.setdefault(near, []).append(part)
    return sorted([tuple(parts) for parts in found.values()])


def twins(web):
    return [lot for lot in alike(web) if len(lot) > 1]


def ties_by(one, names, ties):
    """Whether each tie of the one, renamed, is a key of these ties."""
    for a, b in one.ties:
        if (names[a], names[b]) not in ties and (names[b], names[a]) not in ties:
            return False
    return True


def renaming(one, other):
    if one.size > MOST_RENAMED or other.size > MOST_RENAMED:
        raise TooMany(MOST_RENAMED)
    if one.size != other.size or len(one.ties) != len(other.ties):
        return None
    ties = {pair: True for pair in other.ties}
    parts = list(range(one.size))
    for names in permutations(parts):
        if ties_by(one, names, ties):
            return names
    return None
