"""Kinds of rows of points."""

import itertools
import unittest

from helper import NO_NUMBERS, all_worlds, bare, couples, line, made_worlds, numbers, refused, ring

from pickalike.errors import NoCount, TooMany
from pickalike.kinds import beside_kind, cut, kind
from pickalike.layers import layers
from pickalike.worlds import beside

WIDE = (("aa", "bb", "cc"), ("aa", "dd", "ee"))


def plain_face(world, row):
    """The face of a row, by [21]."""
    if not row:
        return ()
    ahead, point = row[:-1], row[-1]
    return (
        tuple(one == point for one in ahead),
        tuple(point in bearing for name, bearing in world[1]),
        tuple((point, point) in led for name, led in world[2]),
        tuple(tuple((point, one) in led for one in ahead) for name, led in world[2]),
        tuple(tuple((one, point) in led for one in ahead) for name, led in world[2]),
    )


def plain_kind(world, depth, row):
    """The kind of a row, by [21]."""
    below = set()
    if depth > 0:
        below = {plain_kind(world, depth - 1, row + (point,)) for point in range(world[0])}
    return (plain_face(world, row), tuple(sorted(below)))


def deepest(many):
    """The greatest depth up to 6 for which kinds of so many points are told."""
    return max(depth for depth in range(7) if many ** depth <= 600)


def worlds():
    """Worlds of one to eight points."""
    told = all_worlds(1) + all_worlds(2)[::5] + made_worlds(24, tuple(range(1, 9)))
    told += made_worlds(8, tuple(range(1, 9)), WIDE, 4) + made_worlds(8, tuple(range(1, 9)), ((), ("to",)), 5)
    told += made_worlds(8, tuple(range(1, 9)), (("red",), ()), 6)
    return told + [shape(many) for shape in (bare, line, ring) for many in range(1, 9)]


def things_in(thing):
    """All that is no tuple in tuples within one another."""
    if isinstance(thing, tuple):
        return [one for inner in thing for one in things_in(inner)]
    return [thing]


class KindTest(unittest.TestCase):
    def check(self, world, depth, row):
        told = kind(world, depth, row)
        self.assertEqual(told, plain_kind(world, depth, row or ()), (world, depth, row))
        self.assertLessEqual({type(thing) for thing in things_in(told)}, {bool})
        self.same_form(told, depth, len(row or ()), world)
        return told

    def same_form(self, told, depth, length, world):
        """Holds that a kind is of its form through and through, its parts being tuples."""
        self.assertIs(type(told), tuple)
        face, below = told
        self.assertIs(type(face), tuple)
        self.assertIs(type(below), tuple)
        self.assertEqual(len(face), 5 if length else 0)
        if length:
            self.assertEqual([len(part) for part in face],
                             [length - 1, len(world[1])] + [len(world[2])] * 3)
            for part in face[3] + face[4]:
                self.assertEqual(len(part), length - 1)
        self.assertIs(below == (), depth == 0)
        for one, other in zip(below, below[1:]):
            self.assertLess(one, other)
        for one in below[:3]:
            self.same_form(one, depth - 1, length + 1, world)

    def test_the_empty_row(self):
        for world in worlds():
            for depth in range(deepest(world[0]) + 1):
                told = self.check(world, depth, ())
                self.assertEqual(kind(world, depth), told)
                self.assertEqual(kind(world, depth, None), told)

    def test_rows(self):
        source = numbers(8)
        for world in worlds():
            for length in range(9):
                row = tuple(next(source) % world[0] for k in range(length))
                for depth in range(min(deepest(world[0]), 3) + 1):
                    if world[0] ** depth <= 100:
                        self.check(world, depth, row)

    def test_a_point_twice(self):
        for world in made_worlds(6, (2, 3), seed=3) + [ring(3)]:
            for row in itertools.product(range(world[0]), repeat=3):
                for depth in range(3):
                    self.check(world, depth, row)
        self.assertEqual(kind(ring(3), 0, (1, 2, 1)),
                         (((True, False), (), (False,), ((False, True),), ((False, False),)), ()))

    def test_by_hand(self):
        world = (2, (("red", (1,)),), (("to", ((0, 1), (1, 1))),))
        self.assertEqual(kind(world, 0), ((), ()))
        zero = (((), (False,), (False,), ((),), ((),)), ())
        one = (((), (True,), (True,), ((),), ((),)), ())
        self.assertEqual(kind(world, 1), ((), (zero, one)))
        self.assertEqual(kind(world, 0, (0,)), zero)
        self.assertEqual(kind(world, 0, (1,)), one)
        self.assertEqual(kind(world, 0, (1, 0)), (((False,), (False,), (False,), ((True,),), ((False,),)), ()))
        self.assertEqual(kind(world, 0, (0, 1)), (((False,), (True,), (True,), ((False,),), ((True,),)), ()))
        self.assertEqual(kind(world, 0, (1, 1)), (((True,), (True,), (True,), ((True,),), ((True,),)), ()))
        self.assertEqual(kind(bare(3), 1), ((), ((((), (), (), (), ()), ()),)))

    def test_the_bound(self):
        for many in range(1, 9):
            for depth in range(7):
                if many ** depth <= 600:
                    self.assertEqual(kind(bare(many), depth), plain_kind(bare(many), depth, ()))
                else:
                    for row in ((), None, (0,), (0,) * 8):
                        refused(self, TooMany, ("many", many ** depth), kind, bare(many), depth, row)
                    refused(self, TooMany, ("many", many ** depth), kind, line(many), depth)
        self.check(ring(8), 3, (0,) * 8)
        self.check(bare(1), 6, (0,) * 8)
        refused(self, TooMany, ("many", 4096), kind, ring(8), 4)

    def test_depths(self):
        for depth in (-1, 7, 8, -2, 10 ** 300, -(10 ** 300)) + NO_NUMBERS:
            for world in (bare(1), bare(8), line(4)):
                refused(self, NoCount, ("told", depth), kind, world, depth)
                refused(self, NoCount, ("told", depth), kind, world, depth, (0, 0))


class LayersTest(unittest.TestCase):
    def test_equal_just_where_the_layer_has_the_empty_pairing(self):
        found = {True: 0, False: 0}
        for one, other in couples():
            most = min(deepest(one[0]), deepest(other[0]))
            for depth, layer in enumerate(layers(one, other, most)):
                alike = () in layer
                self.assertIs(kind(one, depth) == kind(other, depth), alike, (one, other, depth))
                found[alike] += 1
        self.assertGreater(min(found.values()), 500)

    def test_rows_likewise(self):
        for one, other in couples()[::8]:
            for depth, layer in enumerate(layers(one, other, 2)):
                for pair in itertools.product(range(one[0]), range(other[0])):
                    self.assertIs(kind(one, depth, pair[:1]) == kind(other, depth, pair[1:]), (pair,) in layer)


class CutTest(unittest.TestCase):
    def test_one_less(self):
        source = numbers(2)
        for world in worlds():
            for depth in range(1, deepest(world[0]) + 1):
                told = cut(kind(world, depth))
                self.assertEqual(told, kind(world, depth - 1), (world, depth))
                self.assertLessEqual({type(thing) for thing in things_in(told)}, {bool})
                row = tuple(next(source) % world[0] for k in range(1 + depth % 3))
                self.assertEqual(cut(kind(world, depth, row)), kind(world, depth - 1, row), (world, depth, row))

    def test_again_and_again(self):
        for world in (bare(2), ring(2), line(2), bare(1), ring(1)):
            told = kind(world, 6, (0,))
            for depth in range(5, -1, -1):
                told = cut(told)
                self.assertEqual(told, plain_kind(world, depth, (0,)))


class BesideTest(unittest.TestCase):
    def check(self, one, other):
        both = beside(one, other)
        for depth in range(deepest(both[0]) + 1):
            told = beside_kind(kind(one, depth), kind(other, depth))
            self.assertEqual(told, kind(both, depth), (one, other, depth))
            self.assertLessEqual({type(thing) for thing in things_in(told)}, {bool})

    def test_couples(self):
        for one, other in couples()[::2]:
            self.check(one, other)

    def test_unlike_numbers_up_to_eight(self):
        for shape in (bare, line, ring):
            for one, other in itertools.product(range(1, 8), repeat=2):
                if one + other <= 8:
                    self.check(shape(one), shape(other))

    def test_many_names(self):
        made = made_worlds(12, (2, 3, 5, 1, 4), WIDE, 7)
        for one, other in zip(made, made[1:]):
            if one[0] + other[0] <= 8:
                self.check(one, other)

    def test_of_alike_worlds_the_same_is_made(self):
        # Lines of three and of four points are alike to the depth 2, so they make the same beside another world.
        for other in (line(1), line(2), ring(3), ring(4)):
            self.assertEqual(beside_kind(kind(line(3), 2), kind(other, 2)), kind(beside(line(4), other), 2))
            self.assertEqual(beside_kind(kind(other, 2), kind(line(4), 2)), kind(beside(other, line(3)), 2))

    def test_three(self):
        rows = ((ring(2), line(2), ring(1)), (bare(1), bare(2), bare(3)), (line(3), line(3), ring(2)))
        for one, other, third in rows:
            for depth in range(4):
                told = beside_kind(beside_kind(kind(one, depth), kind(other, depth)), kind(third, depth))
                self.assertEqual(told, kind(beside(beside(one, other), third), depth))


if __name__ == "__main__":
    unittest.main()
