"""Pairs of points of two worlds, and those that fit."""

from pickalike.checks import MOST_SMALL, need_count, need_small
from pickalike.worlds import need_tongue


def rising(pairs):
    """The pairs rising, each once; None are no pairs."""
    if pairs is None:
        return ()
    return tuple(sorted(set(pairs)))


def view(world, one, other):
    """All that a world tells of the one point as it stands to the other."""
    many, marks, arrows = world
    bearing = tuple([one in points for name, points in marks])
    leading = tuple([(one, other) in pairs for name, pairs in arrows])
    return (one == other, bearing, leading)


def views(world):
    """The views of all points of a world, by the point and the other one."""
    return {(one, other): view(world, one, other) for one in range(world[0]) for other in range(world[0])}


def agree(first, second, pair, again):
    """Whether the one pair, as it stands to the other, looks alike in both worlds, told by their views."""
    return first[(pair[0], again[0])] == second[(pair[1], again[1])]


def fits(one, other, pairs):
    """Whether the pairs fit."""
    need_tongue(one, other)
    first = views(one)
    second = views(other)
    told = rising(pairs)
    return all([agree(first, second, pair, again) for pair in told for again in told])


def goes_behind(first, second, pairing, pair):
    """Whether a pair that fits with itself is greater than all of a pairing, and fits with each of them."""
    if pairing and pair <= pairing[-1]:
        return False
    for again in pairing:
        if not agree(first, second, pair, again) or not agree(first, second, again, pair):
            return False
    return True


def pairings(one, other, most):
    """All pairings with at most so many pairs, those of fewer pairs first."""
    need_small(one, other)
    need_count(most, 0, MOST_SMALL)
    first = views(one)
    second = views(other)
    pairs = [(a, b) for a in range(one[0]) for b in range(other[0]) if agree(first, second, (a, b), (a, b))]
    longest = [()]
    told = [()]
    for step in range(most):
        # Both lists rise, so what is made of them rises again.
        longest = [ahead + (pair,) for ahead in longest for pair in pairs if goes_behind(first, second, ahead, pair)]
        told.extend(longest)
    return told
