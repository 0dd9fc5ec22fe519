"""Names, worlds and their tongues; worlds moved by an order and laid side by side."""

from pickalike.errors import NoName, NoTongue, TooMany

LETTERS = "abcdefghijklmnopqrstuvwxyz"
WORDS = ("and", "or", "not", "some", "every", "least", "true", "false")
MOST_POINTS = 8
MOST_NAMES = 3


def is_whole(thing):
    """Whether the thing is a whole number."""
    return isinstance(thing, int) and not isinstance(thing, bool)


def is_name(thing):
    """Whether the thing is a name."""
    if not isinstance(thing, str) or len(thing) < 2 or len(thing) > 8:
        return False
    return thing not in WORDS and all([sign in LETTERS for sign in thing])


def is_point(thing, many):
    """Whether the thing is one of so many points."""
    return is_whole(thing) and 0 <= thing < many


def is_pair(thing, many):
    """Whether the thing is a tuple of two out of so many points."""
    if not isinstance(thing, tuple) or len(thing) != 2:
        return False
    return is_point(thing[0], many) and is_point(thing[1], many)


def rise(things):
    """Whether each of the things is greater than the one ahead of it."""
    return all([one < other for one, other in zip(things, things[1:])])


def are_points(thing, many):
    """Whether the thing is a tuple of rising points."""
    if not isinstance(thing, tuple):
        return False
    return all([is_point(point, many) for point in thing]) and rise(thing)


def are_pairs(thing, many):
    """Whether the thing is a tuple of rising pairs of points."""
    if not isinstance(thing, tuple):
        return False
    return all([is_pair(pair, many) for pair in thing]) and rise(thing)


def is_named(thing):
    """Whether the thing is a tuple of two, the first one a name."""
    return isinstance(thing, tuple) and len(thing) == 2 and is_name(thing[0])


def are_named(thing):
    """Whether the thing is a tuple of few enough tuples of two, by rising names."""
    if not isinstance(thing, tuple) or len(thing) > MOST_NAMES:
        return False
    return all([is_named(one) for one in thing]) and rise([one[0] for one in thing])


def is_world(thing):
    """Whether the thing is a world."""
    if not isinstance(thing, tuple) or len(thing) != 3:
        return False
    many, marks, arrows = thing
    if not is_whole(many) or many < 1 or many > MOST_POINTS:
        return False
    if not are_named(marks) or not are_named(arrows):
        return False
    if not all([are_points(points, many) for name, points in marks]):
        return False
    return all([are_pairs(pairs, many) for name, pairs in arrows])


def tongue_of(world):
    """The names of the world's marks, and those of its arrows."""
    many, marks, arrows = world
    return (tuple([name for name, points in marks]), tuple([name for name, pairs in arrows]))


def by_name(rows, name):
    """What stands by this name in the marks or in the arrows of a world."""
    for one, things in rows:
        if one == name:
            return things
    raise NoName(name)


def bears(world, name, point):
    """Whether the point bears the mark."""
    return point in by_name(world[1], name)


def leads(world, name, one, other):
    """Whether an arrow of this name leads from the one point to the other."""
    return (one, other) in by_name(world[2], name)


def moved(world, order):
    """The world that has at order[k] what this one has at k."""
    many, marks, arrows = world
    new_marks = [(name, tuple(sorted([order[point] for point in points]))) for name, points in marks]
    new_arrows = [(name, tuple(sorted([(order[a], order[b]) for a, b in pairs]))) for name, pairs in arrows]
    return (many, tuple(new_marks), tuple(new_arrows))


def need_tongue(one, other):
    """Refuses two worlds that are not of one tongue."""
    if tongue_of(one) != tongue_of(other):
        raise NoTongue("the worlds are not of one tongue")


def beside(one, other):
    """Both worlds laid side by side, the points of the other one numbered on."""
    need_tongue(one, other)
    first = one[0]
    many = first + other[0]
    if many > MOST_POINTS:
        raise TooMany(many)
    # The points of the other world are all greater than those of the one, so what is put behind still rises.
    marks = [
        (name, points + tuple([first + point for point in more]))
        for (name, points), (again, more) in zip(one[1], other[1])
    ]
    arrows = [
        (name, pairs + tuple([(first + a, first + b) for a, b in more]))
        for (name, pairs), (again, more) in zip(one[2], other[2])
    ]
    return (many, tuple(marks), tuple(arrows))
