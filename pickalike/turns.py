"""Orders of points that turn one world into another."""

from pickalike.checks import need_small
from pickalike.pairings import pairings, rising


def turning(one, other, pairs=None):
    """An order that turns the one world into the other and has these pairs, or None."""
    need_small(one, other)
    many = one[0]
    if other[0] != many:
        return None
    wanted = rising(pairs)
    # A pairing of all points with all points is such an order; pairs that don't fit stand in none.
    for pairing in pairings(one, other, many):
        if len(pairing) == many and all([pair in pairing for pair in wanted]):
            return tuple([b for a, b in pairing])
    return None
