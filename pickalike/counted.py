"""Counted layers, their maps, and sayings that count."""

from pickalike.checks import need_count, need_small
from pickalike.layers import MOST_DEPTH, added, in_layer, layers_of, pairings_with, peeled
from pickalike.pairings import rising
from pickalike.parts import Couple, joined, leaf_apart, seats_of
from pickalike.worlds import LETTERS


def grid_of(one, other, pairing):
    """For each point of the first world a row of what comes of adding its pair with each point of the second.

    Where the worlds haven't as many points the rows are empty, since there is no map then.
    """
    if one[0] != other[0]:
        return [[] for a in range(one[0])]
    return [[added(pairing, (a, b)) for b in range(other[0])] for a in range(one[0])]


def map_behind(choices, ahead):
    """A map that begins with what is ahead and goes on by the choices for each point, or None."""
    if len(ahead) == len(choices):
        return ahead
    for point in choices[len(ahead)]:
        if point not in ahead:
            found = map_behind(choices, ahead + (point,))
            if found is not None:
                return found
    return None


def choices_in(grid, depths, depth):
    """For each point of the first world those of the second with which it comes into the layer of this depth."""
    return [[b for b, pairing in enumerate(row) if in_layer(depths, pairing, depth)] for row in grid]


def mapped_still(grid, depths):
    """Whether there is a map to pairings that aren't parted so far."""
    # No pairing is parted as late as at the greatest depth, so those that are in its layer aren't parted.
    return map_behind(choices_in(grid, depths, MOST_DEPTH), ()) is not None


def counted_depths(one, other, base):
    """For each pairing that has the pairs of the base, the depth at which it is parted by counting, or None."""
    grids = {pairing: grid_of(one, other, pairing) for pairing in pairings_with(one, other, base)}
    return peeled(grids, mapped_still)


def counted_layers(one, other, depth):
    """The counted layers from 0 to this depth."""
    need_small(one, other)
    need_count(depth, 0, MOST_DEPTH)
    return layers_of(counted_depths(one, other, ()), depth)


def counted_map(one, other, depth, pairs):
    """A map for a pairing in the counted layer of this depth, or None where it isn't there."""
    need_small(one, other)
    need_count(depth, 1, MOST_DEPTH)
    base = rising(pairs)
    depths = counted_depths(one, other, base)
    return map_behind(choices_in(grid_of(one, other, base), depths, depth - 1), ())


def counted_parted(one, other, pairs=None):
    """The least depth in whose counted layer the pairs aren't, or None."""
    need_small(one, other)
    base = rising(pairs)
    return counted_depths(one, other, base).get(base, 0)


def crowded(choices):
    """A point that has fewer choices than there are points with just its choices, where the choices make no map."""
    # The choices of two points are the same or share nothing, since points are alike or not.
    for point, own in enumerate(choices):
        if len(own) < len([one for one in choices if one == own]):
            return point
    return None


def more_points(one, other, letter):
    """A saying that counts the points, holding of the first world and not of the second."""
    if one[0] > other[0]:
        return ("least", one[0], letter, ("and", ()))
    return ("not", ("least", other[0], letter, ("and", ())))


def counting_apart(couple, seats):
    """A saying that parts by counting the pairs at which the letters stand, of the depth at which they are parted."""
    pairing = rising(seats)
    if pairing not in couple.depths:
        return leaf_apart(couple, seats)
    letter = couple.letters[len(seats)]
    if couple.one[0] != couple.other[0]:
        return more_points(couple.one, couple.other, letter)
    grid = grid_of(couple.one, couple.other, pairing)
    choices = choices_in(grid, couple.depths, couple.depths[pairing] - 1)
    point = crowded(choices)
    # Points with the same choices agree on what is told here of one of them, and those outside the choices lack it.
    outside = [b for b in range(couple.other[0]) if b not in choices[point]]
    parts = [counting_apart(couple, seats + ((point, b),)) for b in outside]
    return ("least", len(choices[point]) + 1, letter, joined("and", parts))


def counted_parting(one, other, pairs=None):
    """A saying, with least or without, that parts the pairs by counting, or None where they are never parted so."""
    need_small(one, other)
    base = rising(pairs)
    depths = counted_depths(one, other, base)
    if base in depths and depths[base] is None:
        return None
    return counting_apart(Couple(one, other, depths, LETTERS), seats_of(pairs))
