"""What is refused of worlds, numbers and points in the same way by many calls."""

from pickalike.errors import NoCount, NoPoint, TooMany
from pickalike.worlds import is_point, is_whole, need_tongue

MOST_SMALL = 4


def need_few_points(worlds):
    """Refuses the first of the worlds with too many points."""
    for world in worlds:
        if world[0] > MOST_SMALL:
            raise TooMany(world[0])


def need_small(one, other):
    """Refuses two worlds that are not of one tongue, then one with too many points, the first ahead of the second."""
    need_tongue(one, other)
    need_few_points((one, other))


def need_count(told, least, most):
    """Refuses what is no whole number between these two, they too."""
    if not is_whole(told) or told < least or told > most:
        raise NoCount(told)


def need_point(point, many):
    """Refuses what is none of so many points."""
    if not is_point(point, many):
        raise NoPoint(point)
