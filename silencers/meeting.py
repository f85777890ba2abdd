"""The fewest parts that have one of each of some lots; lots are bits, and the parts may be any numbers."""

from silencers.parts import bits_of, how_many, lot_of


def innermost(lots):
    """Of these lots, as bits, those that have no other one within them, each once."""
    found = []
    for lot in sorted(lots, key=how_many):
        if not [inner for inner in found if not inner & ~lot]:
            found.append(lot)
    return found


def met_by(lots):
    """The dict from parts to the numbers of the lots that they are of, as bits."""
    found = {}
    for at, lot in enumerate(lots):
        for part in lot_of(lot):
            found[part] = found.get(part, 0) | (1 << at)
    return found


def is_spare(met, part):
    """Whether another part is of all lots that this one is of; of two parts that are of the same, the first stays."""
    for other in met:
        if not met[part] & ~met[other] and (met[part] != met[other] or other < part):
            return True
    return False


def thinned(lots):
    """The same search with fewer lots and parts: what has a part of each of these lots can do so of each given one."""
    left = innermost(lots)
    while True:
        met = met_by(left)
        spare = bits_of([part for part in met if is_spare(met, part)])
        if not spare:
            return left
        left = innermost([lot & ~spare for lot in left])


def bunches(lots):
    """The lots in bunches such that no lot of one has a part of a lot of another."""
    found = []
    for lot in lots:
        near = [bunch for bunch in found if [other for other in bunch if other & lot]]
        apart = [bunch for bunch in found if bunch not in near]
        found = apart + [[lot] + [other for bunch in near for other in bunch]]
    return found


def meeting_bunch(lots):
    """As meeting_all, for lots that are thinned already."""
    met = met_by(lots)
    every = (1 << len(lots)) - 1
    layer = {0: 0}
    while every not in layer:
        wider = {}
        for done, chosen in layer.items():
            first = lot_of(every & ~done)[0]
            for part in lot_of(lots[first]):
                wider.setdefault(done | met[part], chosen | (1 << part))
        layer = wider
    return layer[every]


def meeting_all(lots):
    """As few parts as can be, as bits, that have one of each of these lots, none of which is empty."""
    chosen = 0
    for bunch in bunches(thinned(lots)):
        chosen |= meeting_bunch(bunch)
    return chosen
