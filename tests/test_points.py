"""Points of one world: classes, orbits, and a saying for each class."""

import itertools
import unittest

from helper import NO_NUMBERS, all_worlds, bare, full, line, looped, made_worlds, near, plain_depth, plain_layers
from helper import plain_moved, plain_turns, refused, ring, small_in_size

from pickalike.errors import NoCount, NoPoint, TooMany
from pickalike.points import classes, defining, orbits
from pickalike.sayings import free_of, holds, is_plain, is_saying, speaks
from pickalike.worlds import tongue_of

BAD_DEPTHS = (-1, 7, -2, 8, 10 ** 300, -(10 ** 300)) + NO_NUMBERS


def worlds():
    """Worlds of one to four points."""
    told = all_worlds(1) + all_worlds(2)[::2] + made_worlds(24, (3, 4))
    told += made_worlds(10, (4, 3), (("aa", "bb", "cc"), ("aa", "dd", "ee")), 6)
    told += made_worlds(12, (4,), ((), ("to",)), 2)
    told += [shape(many) for shape in (bare, line, ring, full, looped) for many in range(1, 5)]
    return told + [near(ring(4)), near(line(4)), near(full(4))]


def gathered(world, alike):
    """The points that are alike together, by [30]."""
    told = []
    for point in range(world[0]):
        if not any(point in group for group in told):
            told.append(tuple(other for other in range(world[0]) if alike(point, other)))
    return told


class ClassesTest(unittest.TestCase):
    def test_against_the_layers(self):
        found = set()
        for world in worlds():
            for depth, layer in enumerate(plain_layers(world, world, 6)):
                told = classes(world, depth)
                self.assertIsInstance(told, list)
                self.assertEqual(told, gathered(world, lambda a, b: ((a, b),) in layer), (world, depth))
                self.assertEqual(sorted(point for group in told for point in group), list(range(world[0])))
                self.assertEqual(told, sorted(told))
                found.add(tuple(len(group) for group in told))
        self.assertLessEqual({(1,), (1, 1), (2,), (3,), (1, 2), (2, 2), (4,), (1, 1, 1, 1), (3, 1)}, found)

    def test_by_hand(self):
        self.assertEqual([classes(line(4), depth) for depth in range(4)],
                         [[(0, 1, 2, 3)], [(0,), (1, 2), (3,)], [(0,), (1,), (2,), (3,)], [(0,), (1,), (2,), (3,)]])
        self.assertEqual(classes((4, (("red", (1, 3)),), ()), 0), [(0, 2), (1, 3)])
        self.assertEqual(classes((1, (), ()), 6), [(0,)])

    def test_the_lists_are_of_their_own(self):
        told = classes(bare(3), 2)
        told.append("more")
        told.reverse()
        self.assertEqual(classes(bare(3), 2), [(0, 1, 2)])
        told = orbits(ring(4))
        told.clear()
        self.assertEqual(orbits(ring(4)), [(0, 1, 2, 3)])


class OrbitsTest(unittest.TestCase):
    def test_against_all_orders(self):
        for world in worlds():
            orders = plain_turns(world, world)
            told = orbits(world)
            self.assertIsInstance(told, list)
            self.assertEqual(told, gathered(world, lambda a, b: any(order[a] == b for order in orders)), world)

    def test_the_classes_from_the_number_of_points_on(self):
        for world in worlds():
            for depth in range(world[0], 7):
                self.assertEqual(classes(world, depth), orbits(world), (world, depth))

    def test_by_hand(self):
        self.assertEqual(orbits(line(3)), [(0,), (1,), (2,)])
        self.assertEqual(orbits((4, (), (("to", ((0, 1), (2, 3))),))), [(0, 2), (1, 3)])
        self.assertEqual(orbits((4, (("red", (0,)),), (("to", ((0, 1), (2, 3))),))), [(0,), (1,), (2,), (3,)])

    def test_moved(self):
        for world, order in itertools.product(made_worlds(8, (4,), ((), ("to",)), 3), ((1, 0, 3, 2), (3, 1, 0, 2))):
            there = sorted(tuple(sorted(order[point] for point in orbit)) for orbit in orbits(world))
            self.assertEqual(orbits(plain_moved(world, order)), there)


class DefiningTest(unittest.TestCase):
    def test_each_depth_and_point(self):
        depths = set()
        for world in worlds():
            for depth, point in itertools.product(range(7), range(world[0])):
                saying = defining(world, depth, point)
                words = (world, depth, point, saying)
                self.assertTrue(is_saying(saying), words)
                self.assertTrue(is_plain(saying), words)
                self.assertLessEqual(plain_depth(saying), depth, words)
                self.assertTrue(speaks(saying, tongue_of(world)), words)
                self.assertLessEqual(set(free_of(saying)), {"a"}, words)
                small_in_size(self, saying)
                group = [one for one in classes(world, depth) if point in one][0]
                for other in range(world[0]):
                    self.assertIs(holds(world, saying, {"a": other}), other in group, words)
                depths.add(plain_depth(saying))
        self.assertLessEqual({0, 1, 2}, depths)

    def test_where_all_are_alike(self):
        for depth, point in itertools.product(range(7), range(4)):
            self.assertTrue(all(holds(ring(4), defining(ring(4), depth, point), {"a": k}) for k in range(4)))


class RefusedTest(unittest.TestCase):
    def test_too_many_ahead_of_all_else(self):
        for many in (5, 6, 7, 8):
            for world in (bare(many), line(many)):
                refused(self, TooMany, ("many", many), orbits, world)
                for depth in (0, 6, 7, -1, None, True):
                    refused(self, TooMany, ("many", many), classes, world, depth)
                    for point in (0, 9, None, True):
                        refused(self, TooMany, ("many", many), defining, world, depth, point)

    def test_depths_ahead_of_points(self):
        for depth in BAD_DEPTHS:
            refused(self, NoCount, ("told", depth), classes, line(3), depth)
            for point in (0, 3, -1, None, True):
                refused(self, NoCount, ("told", depth), defining, line(3), depth, point)

    def test_points(self):
        for many, depth in itertools.product((1, 2, 4), (0, 3, 6)):
            for point in (-1, many, many + 1, 10 ** 300, -(10 ** 300)) + NO_NUMBERS:
                refused(self, NoPoint, ("point", point), defining, bare(many), depth, point)


if __name__ == "__main__":
    unittest.main()
