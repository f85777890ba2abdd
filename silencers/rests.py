"""The rests of a web: how many there are, which they are, and how many there can be."""

from silencers.calls import is_rest
from silencers.errors import NoPart, NoRest, TooMany
from silencers.parts import all_bits, bits_of, check_lot, check_number, check_part, grown, how_many
from silencers.parts import lot_of, pieces_of, tie_inside, tied_bits, tied_to_any
from silencers.shapes import alike
from silencers.webs import MOST_PARTS, beside, full, kept

MOST_RESTS = 2000
MOST_ASKED = 60


class Tally:
    """Counts rests of a web without going through them one by one.

    Parts tied to the same parts are of a rest together or not at all: such
    parts make one KNOT, and knots are numbered by their least parts. All bits
    here are of knots.

    A STATE is a pair (free, owed): the free knots may still tell yes, the owed
    ones tell no, and some free knot tied to each of them must tell yes. A rest
    of a state is a choice of free knots that leaves no call that changes it.
    A PLAN of a state is a tuple of terms (bits, states): its rests are, for
    each term, these bits with one rest of each of these states.

    The WORTH of a state is the number of its rests, where a rest of so many
    parts counts as 1 << (unit * parts). With unit 0 it is just the number; with
    a bit for each part of the web no number can reach the one of the next size,
    so that the numbers for all sizes stand apart in it.

    States wait in a list instead of calls in calls, so that a web of many
    parts does not go too deep.
    """

    def __init__(self, web, with_sizes):
        self.knots = alike(web)
        self.tied = tied_bits(kept(web, tuple([knot[0] for knot in self.knots])))
        self.every = (1 << len(self.knots)) - 1
        self.untied = [self.every & ~near & ~(1 << at) for at, near in enumerate(self.tied)]
        self.unit = web.size if with_sizes else 0
        self.plans = {}
        self.worths = {}

    def knots_of(self, lot):
        """The knots that have a part of the lot."""
        bits = bits_of(lot)
        return bits_of([at for at, knot in enumerate(self.knots) if bits & bits_of(knot)])

    def parts_of(self, bits):
        """The lot of all parts of these knots."""
        return tuple(sorted([part for at in lot_of(bits) for part in self.knots[at]]))

    def size_of(self, bits):
        return sum([len(self.knots[at]) for at in lot_of(bits)])

    def state_with(self, yes, no):
        """What is open when these knots tell yes and no, or None if no rest has them so."""
        near = tied_to_any(self.tied, yes)
        if yes & (near | no):
            return None
        return (self.every & ~(yes | near | no), no & ~near)

    def worth_with(self, yes, no):
        """The worth of the rests in which these knots tell yes and no."""
        state = self.state_with(yes, no)
        if state is None:
            return 0
        return self.worth(state) << (self.unit * self.size_of(yes))

    def worth(self, state):
        waiting = [state]
        while waiting:
            unknown = self.unknown_states(waiting[-1])
            if unknown:
                waiting.extend(unknown)
            else:
                known = waiting.pop()
                self.worths[known] = self.summed(known)
        return self.worths[state]

    def unknown_states(self, state):
        """The states whose worth must be known ahead of the worth of this one."""
        if state in self.worths:
            return []
        if state not in self.plans:
            self.plans[state] = self.plan(state[0], state[1])
        return [inner for _, states in self.plans[state] for inner in states if inner not in self.worths]

    def summed(self, state):
        """The worth of a state, the worths of the states of its plan being known."""
        total = 0
        for bits, states in self.plans[state]:
            worth = 1 << (self.unit * self.size_of(bits))
            for inner in states:
                worth *= self.worths[inner]
            total += worth
        return total

    def plan(self, free, owed):
        if not free:
            return () if owed else ((0, ()),)
        eased = self.eased(free, owed)
        if eased != (free, owed):
            return ((0, (eased,)),)
        apart = self.apart(free, owed)
        if len(apart) > 1:
            return ((0, tuple(apart)),)
        return self.choice(free, owed)

    def eased(self, free, owed):
        """The state without owed knots that cannot stay unpaid, and without free ones that cannot be chosen."""
        still_free = free
        still_owed = owed
        for knot in lot_of(owed):
            near = self.tied[knot] & still_free
            if self.is_paid(near, still_free):
                still_owed &= ~(1 << knot)
            else:
                barred = self.barred(near, still_free)
                still_free &= ~barred
                still_owed |= barred
        return (still_free, still_owed)

    def is_paid(self, near, free):
        """Whether some knot of near has, but for near, no free knot that could silence it."""
        for knot in lot_of(near):
            if not self.tied[knot] & free & ~near:
                return True
        return False

    def barred(self, near, free):
        """The free knots, not of near, that would silence all of near."""
        return bits_of([knot for knot in lot_of(free & ~near) if not near & ~self.tied[knot]])

    def apart(self, free, owed):
        """The states into which a state falls; ties among owed knots do not count."""
        both = free | owed
        tied = [near & (both if (free >> at) & 1 else free) for at, near in enumerate(self.tied)]
        return [(piece & free, piece & owed) for piece in pieces_of(tied, both)]

    def choice(self, free, owed):
        """The plan of a state that hangs together."""
        knot = max(lot_of(free), key=lambda at: how_many(self.tied[at] & free))
        bit = 1 << knot
        near = self.tied[knot]
        if not near & free:
            return ((free, ()),)
        joined = pieces_of(self.untied, free)
        if len(joined) > 1:
            return tuple([(0, ((piece, owed),)) for piece in joined])
        chosen = (free & ~near & ~bit, owed & ~near)
        left_out = (free & ~bit, owed | bit)
        return ((bit, (chosen,)), (0, (left_out,)))

    def rests_of(self, start):
        """The knots of all rests of a state."""
        self.worth(start)
        found = []
        waiting = [(0, (start,))]
        while waiting:
            bits, states = waiting.pop()
            if states:
                waiting.extend(self.going_on(bits, states))
            else:
                found.append(bits)
        return found

    def going_on(self, bits, states):
        """What is left of (bits, states) behind each term of the last state that leads to some rest."""
        found = []
        for more, inner in self.plans[states[-1]]:
            if all([self.worths[state] for state in inner]):
                found.append((bits | more, states[:-1] + inner))
        return found

    def sizes(self):
        """The dict from numbers of parts to how many rests have so many; made with sizes only."""
        left = self.worth((self.every, 0))
        found = {}
        size = 0
        while left:
            many = left & ((1 << self.unit) - 1)
            if many:
                found[size] = many
            left >>= self.unit
            size += 1
        return found

    def many_with(self, yes, no, size):
        """How many rests, of this size if it is not None, have these knots so."""
        worth = self.worth_with(yes, no)
        if size is None:
            return worth
        return (worth >> (self.unit * size)) & ((1 << self.unit) - 1)

    def rest_at(self, number, size):
        """The rest with this number among all, or among those of this size."""
        yes = 0
        no = 0
        left = number
        for knot in range(len(self.knots)):
            bit = 1 << knot
            many = self.many_with(yes | bit, no, size)
            if left < many:
                yes |= bit
            else:
                left -= many
                no |= bit
        return self.parts_of(yes)

    def number_of(self, rest):
        """How many rests are less: they first differ by a part that they have and this one has not."""
        chosen = self.knots_of(rest)
        number = 0
        for knot in range(len(self.knots)):
            bit = 1 << knot
            ahead = bit - 1
            if not chosen & bit:
                number += self.worth_with((chosen & ahead) | bit, ahead & ~chosen)
        return number


def many_rests(web):
    tally = Tally(web, False)
    return tally.worth_with(0, 0)


def every_one_of(tally, no):
    """The ascending list of the rests in which these knots tell no, however many."""
    return sorted([tally.parts_of(bits) for bits in tally.rests_of(tally.state_with(0, no))])


def all_of(tally, no):
    """As every_one_of: TooMany."""
    if tally.worth_with(0, no) > MOST_RESTS:
        raise TooMany(MOST_RESTS)
    return every_one_of(tally, no)


def every_rest(web):
    """As rests, however many."""
    return every_one_of(Tally(web, False), 0)


def rests(web):
    return all_of(Tally(web, False), 0)


def rest_at(web, number):
    tally = Tally(web, False)
    check_number(number, 0, tally.worth_with(0, 0) - 1)
    return tally.rest_at(number, None)


def check_rest(web, thing):
    if not is_rest(web, thing):
        raise NoRest()


def check_part_beside(web, rest, part):
    """Checks a rest and a part that is not of it: NoRest, NoPart."""
    check_rest(web, rest)
    check_part(web, part)
    if part in rest:
        raise NoPart()


def check_few_rests(web, most):
    if many_rests(web) > most:
        raise TooMany(most)


def rest_number(web, rest):
    check_rest(web, rest)
    return Tally(web, False).number_of(rest)


def many_with(web, yes, no):
    check_lot(web, yes)
    check_lot(web, no)
    tally = Tally(web, False)
    return tally.worth_with(tally.knots_of(yes), tally.knots_of(no))


def smallest_rest(web):
    tally = Tally(web, True)
    return tally.rest_at(0, min(tally.sizes()))


def greatest_rest(web):
    tally = Tally(web, True)
    return tally.rest_at(0, max(tally.sizes()))


def held_by(web, lot):
    check_lot(web, lot)
    tied = tied_bits(web)
    bits = bits_of(lot)
    if tie_inside(tied, bits) is not None:
        return None
    return lot_of(grown(tied, bits, all_bits(web)))


def rest_sizes(web):
    found = Tally(web, True).sizes()
    if sum(list(found.values())) > MOST_RESTS:
        raise TooMany(MOST_RESTS)
    return found


def last_piece(size):
    """How many parts are left of a web's when threes are taken from it while more than four are left.

    A web with the most rests is threes all tied and this piece, all tied too.
    """
    left = size
    while left > 4:
        left -= 3
    return left


def most_rests_of(size):
    """As most_rests, but of any size: webs that were returned may have more parts."""
    left = last_piece(size)
    many = left
    for _ in range((size - left) // 3):
        many *= 3
    return many


def most_rests(size):
    check_number(size, 1, MOST_ASKED)
    return most_rests_of(size)


def is_fullest(web):
    return many_rests(web) == most_rests_of(web.size)


def fullest_web(size):
    check_number(size, 1, MOST_PARTS)
    web = full(last_piece(size))
    while web.size < size:
        web = beside(full(3), web)
    return web
