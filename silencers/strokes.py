"""Strokes of hands that hold some parts, and the rests that their courses end in."""

from itertools import combinations

from silencers.calls import behind_row, changed_by, is_rest, is_row
from silencers.coming import end_with, missed_lumps, only_end, rest_behind, row_between
from silencers.errors import NoCourse, NoStroke
from silencers.parts import bits_of, grown, is_lot, is_pair, lot_of
from silencers.parts import tie_inside, tied_bits, tied_to_any, untied_to
from silencers.rests import MOST_RESTS, check_few_rests, check_rest, rests


def is_stroke(web, thing):
    if not is_pair(thing) or not is_lot(web, thing[0]) or not is_lot(web, thing[1]):
        return False
    up, down = thing
    return up + down != () and not bits_of(up) & bits_of(down)


def check_stroke(web, thing):
    if not is_stroke(web, thing):
        raise NoStroke()


def is_course(web, thing):
    """Whether a thing is a pair of rows, wherever they lead."""
    return is_pair(thing) and is_row(web, thing[0]) and is_row(web, thing[1])


class Hands:
    """What a stroke does; all parts here are in bits.

    INSIDE are the parts that are not held and not tied to those held up: they
    alone can tell yes when they are called while the hands hold. Those of them
    that tell yes at the beginning do so until the hands let go.
    """

    def __init__(self, tied, stroke):
        self.tied = tied
        self.every = (1 << len(tied)) - 1
        self.up = bits_of(stroke[0])
        self.down = bits_of(stroke[1])
        self.inside = untied_to(tied, self.up, self.every & ~self.down)

    def held_end(self, rest, row):
        """The stand when the hands let go, or None if the row calls what is held or ends too early."""
        held = self.up | self.down
        found = behind_row(self.tied, (rest | self.up) & ~self.down, row)
        if bits_of(row) & held or bits_of(changed_by(self.tied, found)) & ~held:
            return None
        return found

    def end_of(self, rest, course):
        """The rest that a pair of rows leads to, or None if it is no course from this rest."""
        found = self.held_end(rest, course[0])
        return None if found is None else rest_behind(self.tied, found, course[1])

    def leads(self, rest, end):
        """Whether some course leads from the one rest to the other one."""
        settled = end & self.inside
        if rest & self.inside & ~settled or untied_to(self.tied, settled, self.inside):
            return False
        return not missed_lumps(self.tied, self.up, end)

    def course_between(self, rest, end):
        """A course that leads from the one rest to the other one, where some course does."""
        settled = end & self.inside
        falling = rest & ~self.down & tied_to_any(self.tied, self.up) & ~self.up
        first = lot_of(falling) + lot_of(settled & ~rest)
        return (first, row_between(self.tied, self.up | settled, end))

    def sole_end(self, rest):
        """The rest that all courses from this one lead to, or None if they lead to several."""
        settled = only_end(self.tied, rest & self.inside, self.inside)
        return None if settled is None else only_end(self.tied, self.up | settled, self.every)

    def late(self):
        """The parts held down that may come to tell yes when the hands have let go, if all inside do."""
        return untied_to(self.tied, self.up | self.inside, self.down)

    def parting(self):
        """Two tied parts such that each of them is of some rest that some course ends in, or None."""
        for parts in (self.up, self.inside, self.late()):
            pair = tie_inside(self.tied, parts)
            if pair is not None:
                return pair
        return None

    def way_with(self, part):
        """A pair (rest, course) that ends in a rest with this part, which is one of a parting."""
        rest = grown(self.tied, 1 << part, self.every)
        settled = grown(self.tied, rest & self.inside, self.inside)
        end = end_with(self.tied, self.up | settled, part, self.every)
        return (lot_of(rest), self.course_between(rest, end))


def strokes_holding(web, many):
    """All strokes that hold so many parts."""
    found = []
    for held in combinations(range(web.size), int(many)):
        for choice in range(1 << len(held)):
            up = tuple([part for at, part in enumerate(held) if (choice >> at) & 1])
            down = tuple([part for at, part in enumerate(held) if not (choice >> at) & 1])
            found.append((up, down))
    return found


def course_end(web, rest, stroke, course):
    check_rest(web, rest)
    check_stroke(web, stroke)
    if not is_course(web, course):
        raise NoCourse()
    end = Hands(tied_bits(web), stroke).end_of(bits_of(rest), course)
    if end is None:
        raise NoCourse()
    return lot_of(end)


def stroke_ends(web, rest, stroke):
    check_rest(web, rest)
    check_stroke(web, stroke)
    hands = Hands(tied_bits(web), stroke)
    return [end for end in rests(web) if hands.leads(bits_of(rest), bits_of(end))]


def course_to(web, rest, stroke, end):
    check_rest(web, rest)
    check_rest(web, end)
    check_stroke(web, stroke)
    check_few_rests(web, MOST_RESTS)
    hands = Hands(tied_bits(web), stroke)
    if not hands.leads(bits_of(rest), bits_of(end)):
        return None
    return hands.course_between(bits_of(rest), bits_of(end))


def sure_stroke(web, stroke):
    check_stroke(web, stroke)
    hands = Hands(tied_bits(web), stroke)
    if hands.parting() is not None:
        return None
    return lot_of(hands.up | hands.inside | hands.late())


def two_courses(web, stroke):
    check_stroke(web, stroke)
    hands = Hands(tied_bits(web), stroke)
    pair = hands.parting()
    if pair is None:
        return None
    return hands.way_with(pair[0]) + hands.way_with(pair[1])


def is_two_courses(web, stroke, thing):
    check_stroke(web, stroke)
    if not isinstance(thing, tuple) or len(thing) != 4:
        return False
    hands = Hands(tied_bits(web), stroke)
    found = []
    for rest, course in (thing[:2], thing[2:]):
        if not is_rest(web, rest) or not is_course(web, course):
            return False
        found.append(hands.end_of(bits_of(rest), course))
    return found[0] is not None and found[1] is not None and found[0] != found[1]
