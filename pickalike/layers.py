"""Layers of pairings: how many picks of points on either side can still be answered."""

from pickalike.checks import MOST_SMALL, need_count, need_point, need_small
from pickalike.pairings import pairings, rising

MOST_DEPTH = 6


def added(pairing, pair):
    """The pairing with this pair too."""
    return rising(pairing + (pair,))


def outcomes(one, other, pairing, known):
    """For each point of the one world, then of the other, the known pairings that come of adding a pair with it."""
    grown = {(a, b): added(pairing, (a, b)) for a in range(one[0]) for b in range(other[0])}
    told = [[grown[(a, b)] for b in range(other[0]) if grown[(a, b)] in known] for a in range(one[0])]
    told.extend([[grown[(a, b)] for a in range(one[0]) if grown[(a, b)] in known] for b in range(other[0])])
    return told


def stays(rows, depths):
    """Whether in each of the rows of pairings one isn't parted so far."""
    return all([any([depths[pairing] is None for pairing in row]) for row in rows])


def parting_depths(one, other, base):
    """For each pairing of two small worlds that has the pairs of the base, the depth at which it is parted, or None.

    They come in their order. Adding pairs to such pairings makes such again, so no others need be gone through.
    """
    known = pairings(one, other, MOST_SMALL)
    depths = {pairing: None for pairing in known if all([pair in pairing for pair in base])}
    rows = {pairing: outcomes(one, other, pairing, depths) for pairing in depths}
    depth = 1
    gone = [pairing for pairing in rows if not stays(rows[pairing], depths)]
    # Where a layer is the same as the one ahead of it, so are all that follow.
    while gone:
        for pairing in gone:
            depths[pairing] = depth
        depth += 1
        gone = [pairing for pairing in rows if depths[pairing] is None and not stays(rows[pairing], depths)]
    return depths


def in_layer(depths, pairing, depth):
    """Whether the pairs are a pairing in the layer of this depth, by the depths at which pairings are parted."""
    return pairing in depths and (depths[pairing] is None or depths[pairing] > depth)


def layers(one, other, depth):
    """The layers from 0 to this depth."""
    need_small(one, other)
    need_count(depth, 0, MOST_DEPTH)
    depths = parting_depths(one, other, ())
    return [[pairing for pairing in depths if in_layer(depths, pairing, step)] for step in range(depth + 1)]


def parted(one, other, pairs=None):
    """The least depth in whose layer the pairs aren't, or None."""
    need_small(one, other)
    base = rising(pairs)
    # Of pairs that don't fit there is nothing to be gone through.
    return parting_depths(one, other, base).get(base, 0)


def answers(one, other, depth, pairs, side, point):
    """The points of the other side that, paired with the point of this side, bring the pairing into this layer."""
    need_small(one, other)
    need_count(depth, 0, MOST_DEPTH)
    need_count(side, 0, 1)
    if side == 0:
        need_point(point, one)
        made = [(point, answer) for answer in range(other[0])]
    else:
        need_point(point, other)
        made = [(answer, point) for answer in range(one[0])]
    base = rising(pairs)
    depths = parting_depths(one, other, base)
    return [pair[1 - side] for pair in made if in_layer(depths, added(base, pair), depth)]
