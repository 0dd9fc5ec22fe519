"""Layers of pairings: how many picks of points on either side can still be answered."""

from pickalike.checks import MOST_SMALL, need_count, need_point, need_small
from pickalike.pairings import pairings, rising

MOST_DEPTH = 6


def added(pairing, pair):
    """The pairing with this pair too."""
    return rising(pairing + (pair,))


def pairs_with(one, other, side, point):
    """The pairs that the point of this side makes with each point of the other side."""
    if side == 0:
        return [(point, answer) for answer in range(other[0])]
    return [(answer, point) for answer in range(one[0])]


def picks_of(one, other):
    """All picks of a point on either side, as tuples (side, point)."""
    return [(0, point) for point in range(one[0])] + [(1, point) for point in range(other[0])]


def outcomes(one, other, pairing, known):
    """For each pick the known pairings that come of adding a pair with the point picked."""
    grown = {pair: added(pairing, pair) for a in range(one[0]) for pair in pairs_with(one, other, 0, a)}
    return [
        [grown[pair] for pair in pairs_with(one, other, side, point) if grown[pair] in known]
        for side, point in picks_of(one, other)
    ]


def answered_still(rows, depths):
    """Whether in each of the rows of pairings one isn't parted so far."""
    return all([any([depths[pairing] is None for pairing in row]) for row in rows])


def peeled(rows, stays):
    """For each pairing by which something is kept in the rows, the depth at which it is parted, or None.

    From one depth to the next, those go for which what is kept doesn't stay, by what has gone ahead.
    """
    depths = {pairing: None for pairing in rows}
    depth = 1
    gone = [pairing for pairing in rows if not stays(rows[pairing], depths)]
    # Where a layer is the same as the one ahead of it, so are all that follow.
    while gone:
        for pairing in gone:
            depths[pairing] = depth
        depth += 1
        gone = [pairing for pairing in rows if depths[pairing] is None and not stays(rows[pairing], depths)]
    return depths


def pairings_with(one, other, base):
    """All pairings of two small worlds that have the pairs of the base, in their order.

    Adding pairs to such pairings makes such again, so no others need be gone through for the base.
    """
    return [pairing for pairing in pairings(one, other, MOST_SMALL) if all([pair in pairing for pair in base])]


def parting_depths(one, other, base):
    """For each pairing of two small worlds that has the pairs of the base, the depth at which it is parted, or None."""
    known = {pairing: True for pairing in pairings_with(one, other, base)}
    rows = {pairing: outcomes(one, other, pairing, known) for pairing in known}
    return peeled(rows, answered_still)


def in_layer(depths, pairing, depth):
    """Whether the pairs are a pairing in the layer of this depth, by the depths at which pairings are parted."""
    return pairing in depths and (depths[pairing] is None or depths[pairing] > depth)


def layers_of(depths, depth):
    """The layers from 0 to this depth, by the depths at which pairings are parted."""
    return [[pairing for pairing in depths if in_layer(depths, pairing, step)] for step in range(depth + 1)]


def parting_pick(one, other, depths, pairing):
    """A pick that, whatever answers it, brings a pairing that is parted to pairs that are parted earlier."""
    wanted = depths[pairing] - 1
    for side, point in picks_of(one, other):
        grown = [added(pairing, pair) for pair in pairs_with(one, other, side, point)]
        if not any([in_layer(depths, more, wanted) for more in grown]):
            return (side, point)
    return None


def layers(one, other, depth):
    """The layers from 0 to this depth."""
    need_small(one, other)
    need_count(depth, 0, MOST_DEPTH)
    return layers_of(parting_depths(one, other, ()), depth)


def parted(one, other, pairs=None):
    """The least depth in whose layer the pairs aren't, or None."""
    need_small(one, other)
    base = rising(pairs)
    # Of pairs that don't fit there is nothing to be gone through.
    return parting_depths(one, other, base).get(base, 0)


def answers(one, other, depth, pairs, side, point):
    """The points of the other side that, paired with the point of this side, bring the pairing into this layer."""
    need_small(one, other)
    need_count(depth, 0, MOST_DEPTH)
    need_count(side, 0, 1)
    need_point(point, (one, other)[side][0])
    base = rising(pairs)
    depths = parting_depths(one, other, base)
    made = pairs_with(one, other, side, point)
    return [pair[1 - side] for pair in made if in_layer(depths, added(base, pair), depth)]
