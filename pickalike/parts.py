"""Plain sayings that part pairs, as shallow as any."""

from pickalike.checks import need_small
from pickalike.layers import pairs_with, parting_depths, parting_pick
from pickalike.pairings import rising, views
from pickalike.worlds import LETTERS, tongue_of


def seats_of(pairs):
    """The pairs in their order, as they were handed in; None are no pairs."""
    if pairs is None:
        return ()
    return tuple(pairs)


class Couple:
    """Two worlds, at which depth each of their pairings is parted, and the letters that stand at pairs in a row."""

    def __init__(self, one, other, depths, letters):
        self.one = one
        self.other = other
        self.first = views(one)
        self.second = views(other)
        self.depths = depths
        self.letters = letters


def each_once(things):
    """The things in their order, each once."""
    told = []
    for thing in things:
        if thing not in told:
            told.append(thing)
    return told


def joined(word, sayings):
    """The and or the or of the sayings; one alone stands by itself."""
    parts = each_once(sayings)
    if len(parts) == 1:
        return parts[0]
    return (word, tuple(parts))


def leaves(tongue, x, y):
    """The sayings of depth 0 of the point at x as it stands to that at y, in the order of a view's truths."""
    marks, arrows = tongue
    told = [("same", x, y)]
    told.extend([("mark", name, x) for name in marks])
    told.extend([("arrow", name, x, y) for name in arrows])
    return told


def truths(view):
    """The truths of a view, one behind the other."""
    same, bearing, leading = view
    return (same,) + bearing + leading


def leaf_between(couple, pair, again, x, y):
    """A leaf, or its not, that holds of the first points of two pairs and not of the second ones; None without such."""
    here = truths(couple.first[(pair[0], again[0])])
    there = truths(couple.second[(pair[1], again[1])])
    for leaf, truth, other_truth in zip(leaves(tongue_of(couple.one), x, y), here, there):
        if truth != other_truth:
            return leaf if truth else ("not", leaf)
    return None


def leaf_apart(couple, seats):
    """A leaf, or its not, that parts pairs which don't fit; the letters stand at the pairs in their order."""
    for pair, x in zip(seats, couple.letters):
        for again, y in zip(seats, couple.letters):
            leaf = leaf_between(couple, pair, again, x, y)
            if leaf is not None:
                return leaf
    return None


def told_of_pick(side, letter, parts):
    """The saying that parts by a pick on this side, made of those that part by the pick and each of its answers."""
    # The point picked in the first world has at once what no point of the second has; or each point of the first
    # has something that the point picked in the second lacks.
    if side == 0:
        return ("some", letter, joined("and", parts))
    return ("every", letter, joined("or", parts))


def saying_apart(couple, seats):
    """A plain saying that parts the pairs at which the letters stand, of the depth at which they are parted."""
    pairing = rising(seats)
    if pairing not in couple.depths:
        return leaf_apart(couple, seats)
    side, point = parting_pick(couple.one, couple.other, couple.depths, pairing)
    letter = couple.letters[len(seats)]
    parts = [saying_apart(couple, seats + (pair,)) for pair in pairs_with(couple.one, couple.other, side, point)]
    return told_of_pick(side, letter, parts)


def parting(one, other, pairs=None):
    """A plain saying that parts the pairs, or None where they are never parted."""
    need_small(one, other)
    base = rising(pairs)
    depths = parting_depths(one, other, base)
    if base in depths and depths[base] is None:
        return None
    return saying_apart(Couple(one, other, depths, LETTERS), seats_of(pairs))
