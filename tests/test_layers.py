"""Layers of pairings, where pairs are parted, and which points answer."""

import functools
import itertools
import unittest

from helper import MARKED, NO_NUMBERS, agreeing, all_worlds, bare, couples, line, lists_of_their_own, made_sayings
from helper import marked_couples, near, plain_added, plain_fits, plain_layers, plain_parted, plain_turns, refused, ring
from helper import subsets, worlds_refused

from pickalike.errors import NoCount, NoPoint
from pickalike.layers import answers, layers, parted
from pickalike.sayings import is_plain

BAD_DEPTHS = (-1, 7, -2, 8, 10 ** 300, -(10 ** 300)) + NO_NUMBERS
WORLD = (2, (("red", ()),), (("to", ()),))


@functools.lru_cache(maxsize=None)
def plain(one, other):
    """The layers up to 7 by a plain going through, kept for the next test."""
    return plain_layers(one, other, 7)


class LayersTest(unittest.TestCase):
    def test_against_a_plain_going_through(self):
        for one, other in couples():
            for depth in range(7):
                told = layers(one, other, depth)
                self.assertIsInstance(told, list)
                self.assertEqual(told, plain(one, other)[:depth + 1], (one, other, depth))
                for layer in told:
                    self.assertIsInstance(layer, list)

    def test_all_couples_of_two_points(self):
        for one, other in itertools.product(all_worlds(2), repeat=2):
            self.assertEqual(layers(one, other, 3), plain_layers(one, other, 3), (one, other))

    def test_depth_0(self):
        self.assertEqual(layers(bare(1), bare(1), 0), [[(), ((0, 0),)]])
        self.assertEqual(layers(bare(1), bare(2), 0), [[(), ((0, 0),), ((0, 1),)]])
        self.assertEqual(layers((1, (("red", ()),), ()), (1, (("red", (0,)),), ()), 0), [[()]])

    def test_a_pairing_stays_for_a_point_that_it_has(self):
        self.assertEqual(layers(bare(1), bare(1), 6), [[(), ((0, 0),)]] * 7)
        self.assertEqual(layers(bare(1), bare(2), 2), [[(), ((0, 0),), ((0, 1),)], [()], []])

    def test_both_sides_count(self):
        # Each point of the one world has its like in the other, but not the other way about.
        one = (1, (("red", (0,)),), ())
        other = (2, (("red", (0,)),), ())
        self.assertEqual(layers(one, other, 1), [[(), ((0, 0),)], []])
        self.assertEqual(layers(other, one, 1), [[(), ((0, 0),)], []])

    def test_each_has_only_such_as_the_one_ahead_and_they_stay_the_same(self):
        for one, other in couples():
            told = layers(one, other, 6)
            self.assertEqual(len(told), 7)
            for layer, behind in zip(told, told[1:]):
                self.assertEqual([pairing for pairing in layer if pairing in behind], behind)
            for layer in told[max(one[0], other[0]):]:
                self.assertEqual(layer, told[6])

    def test_unlike_numbers_of_points(self):
        for one, other in itertools.product(range(1, 5), repeat=2):
            told = layers(bare(one), bare(other), 6)
            for depth, layer in enumerate(told):
                self.assertIs(() in layer, one == other or depth <= min(one, other), (one, other, depth))
            if one != other:
                self.assertEqual(told[6], [])

    def test_the_lists_are_of_their_own(self):
        for one, other in couples()[::11] + [(bare(2), bare(2)), (line(4), line(4))]:
            for depth in (0, 2, 6):
                lists_of_their_own(self, lambda: layers(one, other, depth), plain(one, other)[:depth + 1])
            self.assertEqual(parted(one, other), plain_parted(plain(one, other), ()))

    def test_turned_about(self):
        for one, other in couples()[::4]:
            for layer, there in zip(layers(one, other, 6), layers(other, one, 6)):
                self.assertEqual(sorted(tuple(sorted((b, a) for a, b in pairing)) for pairing in layer), sorted(there))


class PartedTest(unittest.TestCase):
    def test_each_pairing(self):
        told = {}
        for one, other in couples():
            for pairing in plain(one, other)[0]:
                depth = parted(one, other, pairing)
                self.assertEqual(depth, plain_parted(plain(one, other), pairing), (one, other, pairing))
                told[depth] = told.get(depth, 0) + 1
        self.assertEqual(set(told), {1, 2, 3, 4, None})

    def test_lines(self):
        # Lines are alike to the depth d where they are equal, or both have at least 2 ** d - 1 points.
        for one, other in itertools.product(range(1, 5), repeat=2):
            alike = [depth for depth in range(7) if one == other or min(one, other) >= 2 ** depth - 1]
            self.assertEqual(parted(line(one), line(other)), None if one == other else alike[-1] + 1)

    def test_bare_points_and_rings(self):
        for one, other in itertools.product(range(1, 5), repeat=2):
            self.assertEqual(parted(bare(one), bare(other)), None if one == other else min(one, other) + 1)
        self.assertEqual(parted(ring(1), ring(2)), 1)
        self.assertEqual(parted(ring(2), ring(3)), 2)
        self.assertEqual(parted(ring(3), ring(4)), 2)
        self.assertIsNone(parted(ring(4), ring(4), ((0, 2), (1, 3))))

    def test_pairs_that_do_not_fit_are_parted_at_0(self):
        for one, other in couples()[::6]:
            for pairs in subsets(itertools.product(range(one[0]), range(other[0])), 2):
                depth = parted(one, other, pairs)
                self.assertIs(depth == 0, not plain_fits(one, other, pairs), (one, other, pairs))
                self.assertNotIsInstance(depth, bool)
        self.assertEqual(parted(bare(4), bare(4), tuple(itertools.product(range(4), repeat=2)) * 125), 0)

    def test_pairs_in_any_order_and_twice(self):
        for one, other in couples()[::6]:
            for pairing in plain(one, other)[0]:
                depth = plain_parted(plain(one, other), pairing)
                self.assertEqual(parted(one, other, pairing[::-1]), depth)
                self.assertEqual(parted(one, other, pairing + pairing), depth)
                self.assertEqual(parted(one, other, (pairing[1:] + pairing[:1] + pairing[::-1]) * 3), depth)

    def test_none_and_left_out(self):
        for one, other in couples():
            depth = plain_parted(plain(one, other), ())
            self.assertEqual(parted(one, other), depth)
            self.assertEqual(parted(one, other, None), depth)
            self.assertEqual(parted(one, other, ()), depth)

    def test_never_parted_just_where_an_order_has_these_pairs(self):
        found = {True: 0, False: 0}
        for one, other in couples():
            orders = plain_turns(one, other)
            for pairing in plain(one, other)[0]:
                turned = any(all(order[a] == b for a, b in pairing) for order in orders)
                self.assertIs(parted(one, other, pairing) is None, turned, (one, other, pairing))
                found[turned] += 1
        self.assertGreater(min(found.values()), 300)


class AnswersTest(unittest.TestCase):
    def right(self, one, other, depth, pairs, side, point):
        layer = plain(one, other)[depth]
        if side == 0:
            return [b for b in range(other[0]) if plain_added(pairs, (point, b)) in layer]
        return [a for a in range(one[0]) if plain_added(pairs, (a, point)) in layer]

    def test_each_side_and_each_point(self):
        lengths = set()
        for one, other in couples()[::10] + [(bare(4), bare(4))]:
            for pairing, depth, side in itertools.product(plain(one, other)[0][:60], (0, 1, 2, 3, 6), (0, 1)):
                for point in range((one, other)[side][0]):
                    told = answers(one, other, depth, pairing, side, point)
                    self.assertIsInstance(told, list)
                    self.assertEqual(told, self.right(one, other, depth, pairing, side, point))
                    self.assertEqual(told, sorted(set(told)))
                    lengths.add(len(told))
        self.assertEqual(lengths, {0, 1, 2, 3, 4})

    def test_every_depth(self):
        for one, other in ((line(3), line(4)), (bare(4), bare(3)), (ring(3), ring(4)), (line(4), near(line(4)))):
            for depth in range(7):
                for point in range(one[0]):
                    self.assertEqual(answers(one, other, depth, (), 0, point),
                                     self.right(one, other, depth, (), 0, point))
                for point in range(other[0]):
                    self.assertEqual(answers(one, other, depth, (), 1, point),
                                     self.right(one, other, depth, (), 1, point))

    def test_sides(self):
        one = (2, (("red", (0,)),), ())
        other = (3, (("red", (1, 2)),), ())
        self.assertEqual(answers(one, other, 0, (), 0, 0), [1, 2])
        self.assertEqual(answers(one, other, 0, (), 0, 1), [0])
        self.assertEqual(answers(one, other, 0, (), 1, 0), [1])
        self.assertEqual(answers(one, other, 0, (), 1, 1), [0])
        self.assertEqual(answers(one, other, 0, (), 1, 2), [0])
        self.assertEqual(answers(one, other, 0, ((0, 2),), 0, 0), [2])
        self.assertEqual(answers(one, other, 0, ((0, 2),), 1, 1), [])
        self.assertEqual(answers(one, other, 1, (), 0, 0), [])
        self.assertEqual(answers(one, other, 1, (), 0, 1), [0])
        self.assertEqual(answers(one, other, 1, (), 1, 1), [])
        self.assertEqual(answers(one, other, 2, (), 0, 1), [])

    def test_a_point_that_the_pairing_has_is_answered_by_its_own(self):
        for one, other in couples()[::9]:
            for depth, layer in enumerate(plain(one, other)[:7]):
                for pairing in layer:
                    for a, b in pairing:
                        self.assertEqual(answers(one, other, depth, pairing, 0, a), [b])
                        self.assertEqual(answers(one, other, depth, pairing, 1, b), [a])

    def test_nothing_answers(self):
        for depth in range(7):
            self.assertEqual(answers(bare(2), bare(1), depth, ((0, 0),), 0, 1), [])
            self.assertEqual(answers(bare(1), bare(2), depth, ((0, 0),), 1, 1), [])
            self.assertEqual(answers((1, (("red", ()),), ()), (1, (("red", (0,)),), ()), depth, (), 0, 0), [])

    def test_in_the_next_layer_every_point_is_answered(self):
        for one, other in couples()[::15]:
            told = layers(one, other, 6)
            for depth, pairing in [(depth, pairing) for depth in range(6) for pairing in told[0]]:
                found = [answers(one, other, depth, pairing, 0, point) for point in range(one[0])]
                found += [answers(one, other, depth, pairing, 1, point) for point in range(other[0])]
                self.assertIs(all(found), pairing in told[depth + 1], (one, other, depth, pairing))

    def test_none_for_pairs(self):
        for one, other in couples()[::9]:
            for depth, side in itertools.product((0, 1, 2), (0, 1)):
                self.assertEqual(answers(one, other, depth, None, side, 0), answers(one, other, depth, (), side, 0))

    def test_a_change_of_the_list_changes_nothing_told_later(self):
        told = answers(bare(4), bare(4), 2, (), 0, 1)
        self.assertEqual(told, [0, 1, 2, 3])
        told.append(9)
        del told[:2]
        self.assertEqual(answers(bare(4), bare(4), 2, (), 0, 1), [0, 1, 2, 3])


class AgreeingTest(unittest.TestCase):
    """What holds of pairings in a layer by [19]."""

    def test_plain_sayings(self):
        pool = made_sayings("abcd", MARKED, 900, 4, plain=True)
        self.assertTrue(all(is_plain(saying) for saying in pool))
        compared, parts = agreeing(self, marked_couples(lambda one, other: plain(one, other)[1:5]), layers, pool)
        self.assertGreater(min(compared), 1000)
        # The sayings are such that they part pairings, where these aren't in the layer.
        self.assertGreater(parts, 1000)


class RefusedTest(unittest.TestCase):
    calls = (
        lambda one, other: layers(one, other, 2),
        lambda one, other: layers(one, other, -1),
        lambda one, other: layers(one, other, None),
        lambda one, other: parted(one, other),
        lambda one, other: parted(one, other, ((0, 0), (0, 1))),
        lambda one, other: answers(one, other, 2, (), 0, 0),
        lambda one, other: answers(one, other, 7, (), 2, 9),
        lambda one, other: answers(one, other, True, None, True, True),
    )

    def test_worlds_ahead_of_all_else(self):
        for call in self.calls:
            worlds_refused(self, call)

    def test_depths(self):
        for depth in BAD_DEPTHS:
            refused(self, NoCount, ("told", depth), layers, WORLD, WORLD, depth)
            for side, point in itertools.product((0, 1, 2, None, True), (0, 2, None, True)):
                refused(self, NoCount, ("told", depth), answers, WORLD, WORLD, depth, (), side, point)

    def test_sides(self):
        for side in (-1, 2, 3, 10 ** 300) + NO_NUMBERS:
            for depth, point in itertools.product((0, 6), (0, 1, 2, -1, None, True, "0")):
                refused(self, NoCount, ("told", side), answers, WORLD, WORLD, depth, (), side, point)

    def test_points(self):
        three = (3,) + WORLD[1:]
        for depth in (0, 3, 6):
            for point in (-1, 4, 8, 10 ** 300) + NO_NUMBERS:
                for side in (0, 1):
                    refused(self, NoPoint, ("point", point), answers, WORLD, three, depth, None, side, point)
            refused(self, NoPoint, ("point", 2), answers, WORLD, three, depth, (), 0, 2)
            refused(self, NoPoint, ("point", 2), answers, three, WORLD, depth, (), 1, 2)
            refused(self, NoPoint, ("point", 3), answers, WORLD, three, depth, (), 1, 3)
            self.assertIsInstance(answers(WORLD, three, depth, (), 1, 2), list)
            self.assertIsInstance(answers(three, WORLD, depth, (), 0, 2), list)

    def test_what_is_not_refused(self):
        for depth in range(7):
            self.assertEqual(len(layers(WORLD, WORLD, depth)), depth + 1)
            self.assertEqual(answers(bare(4), bare(4), depth, ((0, 3),), 0, 0), [3])
        self.assertIsNone(parted(bare(4), bare(4)))

    def test_after_a_refusal_the_same_is_told(self):
        kept = layers(line(3), line(4), 6)
        refused(self, NoCount, ("told", 7), layers, line(3), line(4), 7)
        refused(self, NoPoint, ("point", 3), answers, line(3), line(4), 1, (), 0, 3)
        self.assertEqual(layers(line(3), line(4), 6), kept)
        self.assertEqual(kept, plain(line(3), line(4))[:7])


if __name__ == "__main__":
    unittest.main()
