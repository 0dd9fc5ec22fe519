"""Kinds: what can be told of a row of points to a depth, as a tuple."""

from pickalike.checks import need_count
from pickalike.errors import TooMany
from pickalike.layers import MOST_DEPTH

MOST_POWER = 600


def power(many, depth):
    """The product of so many factors."""
    told = 1
    for step in range(depth):
        told *= many
    return told


def sorted_once(told):
    """The tuple of the kinds, sorted, each once."""
    kept = []
    # Kinds stand too deep within one another to be members of a set; sorted, equal ones stand beside one another.
    for one in sorted(told):
        if not kept or kept[-1] != one:
            kept.append(one)
    return tuple(kept)


def face_of(world, row):
    """What the last point of the row is, also as it stands to those ahead of it."""
    if len(row) == 0:
        return ()
    *ahead, last = row
    many, marks, arrows = world
    same = tuple([point == last for point in ahead])
    bearing = tuple([last in points for name, points in marks])
    loops = tuple([(last, last) in pairs for name, pairs in arrows])
    outward = tuple([tuple([(last, point) in pairs for point in ahead]) for name, pairs in arrows])
    inward = tuple([tuple([(point, last) in pairs for point in ahead]) for name, pairs in arrows])
    return (same, bearing, loops, outward, inward)


def kind_of(world, depth, row):
    """The kind of a row, for a depth that is not refused."""
    face = face_of(world, row)
    if depth == 0:
        return (face, ())
    return (face, sorted_once([kind_of(world, depth - 1, row + (point,)) for point in range(world[0])]))


def kind(world, depth, row=None):
    """The kind of a row of points of the world, for a depth."""
    need_count(depth, 0, MOST_DEPTH)
    many = power(world[0], depth)
    if many > MOST_POWER:
        raise TooMany(many)
    return kind_of(world, depth, () if row is None else row)


def depth_of_kind(told):
    """The depth for which a kind was told."""
    depth = 0
    # In a kind of depth 0 nothing is below, and all that is below of another is of the depth one less.
    while told[1] != ():
        told = told[1][0]
        depth += 1
    return depth


def cut(kind):
    """The kind of the same row for the depth one less."""
    face, below = kind
    if depth_of_kind(kind) == 1:
        return (face, ())
    return (face, sorted_once([cut(one) for one in below]))


def spread(truths, sides, side):
    """The truths for the points of this side in their places among those of both sides; for the others no."""
    told = [False for one in sides]
    places = [at for at, one in enumerate(sides) if one == side]
    for at, truth in zip(places, truths):
        told[at] = truth
    return tuple(told)


def spread_face(face, sides, side):
    """The face of a point behind a row of points of these sides, made of its face behind those of its own side."""
    same, bearing, loops, outward, inward = face
    out = tuple([spread(truths, sides, side) for truths in outward])
    back = tuple([spread(truths, sides, side) for truths in inward])
    return (spread(same, sides, side), bearing, loops, out, back)


def kind_beside(face, both, sides, depth):
    """The kind of a row of points of two worlds side by side, for a depth.

    It is made of its face, of the kinds, for this depth or a greater one, of its points of either world,
    and of what is told for each point of the row: from which side it is.
    """
    if depth == 0:
        return (face, ())
    told = []
    for side in (0, 1):
        for one in both[side][1]:
            grown = (one, both[1]) if side == 0 else (both[0], one)
            told.append(kind_beside(spread_face(one[0], sides, side), grown, sides + (side,), depth - 1))
    return (face, sorted_once(told))


def beside_kind(one, other):
    """The kind of () of two worlds side by side, made of their kinds of () for the same depth."""
    return kind_beside((), (one, other), (), depth_of_kind(one))
