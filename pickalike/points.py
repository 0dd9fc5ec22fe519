"""Points of one world that are alike, and sayings that tell them from the others."""

from pickalike.checks import need_count, need_point, need_small
from pickalike.layers import MOST_DEPTH, in_layer, parting_depths
from pickalike.parts import each_once, joined, parting
from pickalike.turns import turning


def classes(world, depth):
    """The points in classes, those together that are alike to this depth."""
    need_small(world, world)
    need_count(depth, 0, MOST_DEPTH)
    depths = parting_depths(world, world, ())
    points = list(range(world[0]))
    return each_once([tuple([b for b in points if in_layer(depths, ((a, b),), depth)]) for a in points])


def orbits(world):
    """The points in classes, those together that orders turn into one another while the world stays as it is."""
    need_small(world, world)
    points = list(range(world[0]))
    return each_once([tuple([b for b in points if turning(world, world, ((a, b),)) is not None]) for a in points])


def defining(world, depth, point):
    """A plain saying of this depth at most that holds at a for just the points of this point's class."""
    told = classes(world, depth)
    need_point(point, world[0])
    others = [other for group in told if point not in group for other in group]
    # What is alike to the depth agrees on sayings that are no deeper, so all of the class goes with the point.
    return joined("and", [parting(world, world, ((point, other),)) for other in others])
