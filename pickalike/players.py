"""Hands that play: one that copies picks, one that picks so that nothing copies them."""

from pickalike.checks import need_count, need_few_points, need_point, need_small
from pickalike.errors import NoMore, TooMany
from pickalike.layers import MOST_DEPTH, added, pairs_with, parting_depths, parting_pick
from pickalike.pairings import rising
from pickalike.worlds import MOST_POINTS, need_tongue

# Greater than each depth at which pairs are parted.
NEVER = 9


def points_in(worlds):
    """How many points the worlds have together."""
    return sum([world[0] for world in worlds])


def need_playable(ones, others):
    """Refuses rows of worlds of unlike tongues, then with too many points."""
    worlds = ones + others
    for world in worlds:
        need_tongue(worlds[0], world)
    need_few_points(worlds)
    for row in (ones, others):
        if points_in(row) > MOST_POINTS:
            raise TooMany(points_in(row))


def place_of(worlds, point):
    """Which of the worlds, laid side by side, has the point, and as which point of its own."""
    at = 0
    while point >= worlds[at][0]:
        point -= worlds[at][0]
        at += 1
    return (at, point)


def lasting(depths, pairs):
    """The depth at which pairs are parted, as a number also where that is never."""
    depth = depths.get(pairs, 0)
    return NEVER if depth is None else depth


class Copier:
    """Answers each pick by a point of the other side so that the pairs fit as long as they can."""

    def __init__(self, ones, others, picks):
        self.sides = (tuple(ones), tuple(others))
        need_playable(self.sides[0], self.sides[1])
        need_count(picks, 0, MOST_DEPTH)
        self.left = picks
        self.turns = []
        self.tables = [parting_depths(one, other, ()) for one, other in zip(self.sides[0], self.sides[1])]
        # For each two worlds at one place the pairs of what was picked and answered there.
        self.held = [() for table in self.tables]

    def answer(self, side, point):
        """A point of the other side for a pick."""
        if self.left == 0:
            raise NoMore("as many picks as told were answered")
        need_count(side, 0, 1)
        need_point(point, points_in(self.sides[side]))
        at, own = place_of(self.sides[side], point)
        grown = [added(self.held[at], pair) for pair in pairs_with(self.sides[0][at], self.sides[1][at], side, own)]
        lasts = [lasting(self.tables[at], pairs) for pairs in grown]
        reply = lasts.index(max(lasts))
        self.held[at] = grown[reply]
        told = points_in(self.sides[1 - side][:at]) + reply
        self.turns.append((point, told) if side == 0 else (told, point))
        self.left -= 1
        return told

    def pairs(self):
        """The pairs picked and answered, in the order of the picks."""
        return list(self.turns)


class Picker:
    """Picks so that the pairs don't fit behind as few turns as can be, whatever is answered."""

    def __init__(self, one, other):
        need_small(one, other)
        self.sides = (one, other)
        self.depths = parting_depths(one, other, ())
        self.turns = []
        if self.depths[()] is None:
            raise NoMore("there is no pick that parts these worlds")

    def pick(self):
        """The side and the point of the pick that is to be answered next."""
        pairing = rising(self.turns)
        if pairing not in self.depths:
            return (0, 0)
        return parting_pick(self.sides[0], self.sides[1], self.depths, pairing)

    def answered(self, point):
        """Takes a point of the other side for the pick."""
        side, own = self.pick()
        need_point(point, self.sides[1 - side][0])
        self.turns.append((own, point) if side == 0 else (point, own))

    def pairs(self):
        """The pairs picked and answered, in the order of the picks."""
        return list(self.turns)
