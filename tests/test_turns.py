"""Orders that turn one world into another."""

import itertools
import unittest

from helper import all_worlds, bare, couples, line, made_worlds, plain_fits, plain_moved, plain_turns, ring, subsets
from helper import worlds_refused

from pickalike.turns import turning
from pickalike.worlds import moved


class TurningTest(unittest.TestCase):
    def check(self, one, other, pairs, orders):
        """The orders: all those that turn the one world into the other."""
        told = turning(one, other, pairs)
        right = [order for order in orders if all(order[a] == b for a, b in pairs or ())]
        if told is None:
            self.assertEqual(right, [], (one, other, pairs))
            return None
        self.assertIsInstance(told, tuple)
        self.assertIn(told, right, (one, other, pairs))
        self.assertEqual(moved(one, told), other)
        return told

    def test_against_all_orders(self):
        found = {True: 0, False: 0}
        for one, other in couples():
            orders = plain_turns(one, other)
            self.check(one, other, (), orders)
            for pair in itertools.product(range(one[0]), range(other[0])):
                found[self.check(one, other, (pair,), orders) is None] += 1
        self.assertGreater(min(found.values()), 200)

    def test_all_sets_of_pairs(self):
        worlds = made_worlds(6, (3, 4)) + [ring(4), ring(3), line(3), bare(3), bare(2)]
        for world in worlds:
            orders = plain_turns(world, world)
            for pairs in subsets(itertools.product(range(world[0]), repeat=2), 3):
                self.check(world, world, pairs, orders)
                self.check(world, world, pairs[::-1] + pairs, orders)

    def test_moved_worlds_are_turned(self):
        for world in made_worlds(20, (1, 2, 3, 4)) + [bare(4), line(4), ring(4)]:
            for order in itertools.permutations(range(world[0])):
                other = plain_moved(world, order)
                orders = plain_turns(world, other)
                pairs = tuple(enumerate(order))
                for some in subsets(pairs, 1) + [pairs, pairs[1:], pairs + pairs]:
                    self.assertIsNotNone(self.check(world, other, some, orders))
                self.assertEqual(turning(world, other, pairs), order)

    def test_the_order_goes_from_the_first_to_the_second(self):
        one = (3, (("red", (0,)),), (("to", ((0, 1), (1, 2))),))
        self.assertEqual(turning(one, plain_moved(one, (1, 2, 0))), (1, 2, 0))
        self.assertEqual(turning(plain_moved(one, (1, 2, 0)), one), (2, 0, 1))
        self.assertEqual(turning(one, plain_moved(one, (1, 2, 0)), ((0, 1),)), (1, 2, 0))
        self.assertIsNone(turning(one, plain_moved(one, (1, 2, 0)), ((1, 0),)))

    def test_pairs_none_and_left_out(self):
        for one, other in couples()[::7]:
            found = plain_turns(one, other) != []
            self.assertIs(turning(one, other) is not None, found)
            self.assertIs(turning(one, other, None) is not None, found)
            self.assertIs(turning(one, other, ()) is not None, found)

    def test_unlike_numbers_of_points(self):
        for one, other in itertools.product(range(1, 5), repeat=2):
            if one != other:
                for pairs in (None, (), ((0, 0),), ((0, 0), (0, 0))):
                    self.assertIsNone(turning(bare(one), bare(other), pairs))
                    self.assertIsNone(turning(line(one), line(other), pairs))

    def test_pairs_that_do_not_fit(self):
        for world in all_worlds(2) + [bare(3), bare(4)]:
            self.assertIsNone(turning(world, world, ((0, 0), (0, 1))))
            self.assertIsNone(turning(world, world, ((0, 0), (1, 0))))
            self.assertIsNone(turning(world, world, ((1, 0), (0, 0), (1, 0))))
        self.assertIsNone(turning(line(3), line(3), ((0, 1), (1, 0))))

    def test_pairs_that_fit_though_no_order_has_them(self):
        self.assertTrue(plain_fits(line(3), line(3), ((0, 1),)))
        self.assertIsNone(turning(line(3), line(3), ((0, 1),)))
        self.assertEqual(turning(line(3), line(3), ((1, 1),)), (0, 1, 2))

    def test_pairs_that_stand_twice(self):
        self.assertEqual(turning(ring(4), ring(4), ((0, 1), (0, 1), (2, 3), (0, 1))), (1, 2, 3, 0))
        self.assertEqual(turning(bare(2), bare(2), ((0, 1),) * 2000), (1, 0))
        self.assertIsNone(turning(bare(4), bare(4), tuple(itertools.product(range(4), repeat=2)) * 100))

    def test_refused(self):
        for pairs in (None, (), ((0, 0),), ((0, 0), (0, 1))):
            worlds_refused(self, lambda one, other: turning(one, other, pairs))
        worlds_refused(self, turning)


if __name__ == "__main__":
    unittest.main()
