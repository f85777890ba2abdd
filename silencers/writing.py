"""How a rest is written: by one sure stroke, or by strokes that hold one part each."""

from silencers.errors import TooMany
from silencers.parts import bits_of, tied_bits
from silencers.rests import check_few_rests, check_rest, rests
from silencers.shapes import alike
from silencers.strokes import Hands, is_stroke, strokes_holding, sure_stroke

MOST_HELD = 8
MOST_WRITTEN = 12


def sure_strokes(web, rest):
    check_rest(web, rest)
    if web.size > MOST_HELD:
        raise TooMany(MOST_HELD)
    found = []
    many = 0
    while not found:
        many += 1
        found = [stroke for stroke in strokes_holding(web, many) if sure_stroke(web, stroke) == rest]
    return sorted(found)


def fewest_held(web, rest):
    up, down = sure_strokes(web, rest)[0]
    return len(up) + len(down)


class Writer:
    """What strokes do to the rests of a web.

    Rests are known by their numbers, and several of them are kept as bits: bit
    k is set if rest k may be the one that the web is in.
    """

    def __init__(self, web):
        self.tied = tied_bits(web)
        self.rest_bits = [bits_of(rest) for rest in rests(web)]
        self.start = (1 << len(self.rest_bits)) - 1

    def state_of(self, rest):
        return 1 << self.rest_bits.index(bits_of(rest))

    def image(self, stroke):
        """For each rest, those that some course of the stroke leads to."""
        hands = Hands(self.tied, stroke)
        return tuple([bits_of([at for at, end in enumerate(self.rest_bits) if hands.leads(rest, end)])
                      for rest in self.rest_bits])


def images_of(web, writer):
    """The dict from the images of strokes that hold one part to such strokes.

    Parts that are all tied to the same parts have the same images.
    """
    found = {}
    for parts in alike(web):
        for stroke in ((parts[:1], ()), ((), parts[:1])):
            found.setdefault(writer.image(stroke), stroke)
    return found


def behind_image(image, states):
    """The rests that the web may be in behind a stroke, from these ones."""
    found = 0
    for at, ends in enumerate(image):
        if (states >> at) & 1:
            found |= ends
    return found


def fewest_steps(images, start, goal):
    """The fewest strokes that lead from these rests to those."""
    ways = {start: ()}
    edge = [start]
    while goal not in ways:
        wider = []
        for states in edge:
            for image, stroke in images.items():
                behind = behind_image(image, states)
                if behind not in ways:
                    ways[behind] = ways[states] + (stroke,)
                    wider.append(behind)
        edge = wider
    return ways[goal]


def writing(web, rest):
    check_rest(web, rest)
    check_few_rests(web, MOST_WRITTEN)
    writer = Writer(web)
    return fewest_steps(images_of(web, writer), writer.start, writer.state_of(rest))


def is_writing(web, rest, thing):
    check_rest(web, rest)
    check_few_rests(web, MOST_WRITTEN)
    if not isinstance(thing, tuple):
        return False
    writer = Writer(web)
    states = writer.start
    images = {}
    for stroke in thing:
        if not is_stroke(web, stroke) or len(stroke[0] + stroke[1]) != 1:
            return False
        if stroke not in images:
            images[stroke] = writer.image(stroke)
        states = behind_image(images[stroke], states)
    return states == writer.state_of(rest)
