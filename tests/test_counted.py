"""Counted layers, maps, and sayings that count."""

import functools
import itertools
import unittest

from helper import DEEP_COUNTED, MARKED, NO_NUMBERS, agreeing, all_worlds, bare, couples, deep_couples, line
from helper import lists_of_their_own, made_sayings, made_worlds, marked_couples, near, numbers, plain_added, plain_fits
from helper import plain_pairings, plain_parted, plain_turns, refused, ring, saying_parts, subsets, up_to_eight_pairs
from helper import worlds_refused

from pickalike.counted import counted_layers, counted_map, counted_parted, counted_parting
from pickalike.errors import NoCount
from pickalike.layers import parted
from pickalike.sayings import is_plain

BAD_DEPTHS = (-1, 7, -2, 8, 10 ** 300, -(10 ** 300)) + NO_NUMBERS
WORLD = (2, (("red", ()),), (("to", ()),))


def chosen():
    """Couples of worlds, also such as counting parts late, or parts ahead of what doesn't count."""
    made = made_worlds(30, (4,), ((), ("to",)), 12) + made_worlds(10, (3,), ((), ("to",)), 13)
    told = couples()[::2] + list(DEEP_COUNTED) + [(other, one) for one, other in DEEP_COUNTED] + deep_couples()
    told += list(zip(made, made[1:])) + [(one, near(one)) for one in made]
    return told + [(one, one) for one in made[::2]]


@functools.lru_cache(maxsize=None)
def plain_counted(one, other):
    """The counted layers up to 7, by [28], all maps tried."""
    told = [plain_pairings(one, other, 4)]
    orders = list(itertools.permutations(range(other[0]))) if one[0] == other[0] else []
    for step in range(7):
        last = set(told[-1])
        told.append([
            pairing for pairing in told[0]
            if any(all(plain_added(pairing, pair) in last for pair in enumerate(order)) for order in orders)
        ])
    return told


class LayersTest(unittest.TestCase):
    def test_against_a_plain_going_through(self):
        for one, other in chosen():
            for depth in (0, 1, 2, 3, 6):
                told = counted_layers(one, other, depth)
                self.assertIsInstance(told, list)
                self.assertEqual(told, plain_counted(one, other)[:depth + 1], (one, other, depth))
                for layer in told:
                    self.assertIsInstance(layer, list)

    def test_all_couples_of_two_points(self):
        for one, other in itertools.product(all_worlds(2)[::2], all_worlds(2)):
            self.assertEqual(counted_layers(one, other, 6), plain_counted(one, other)[:7])

    def test_unlike_numbers_of_points(self):
        for shape, (one, other) in itertools.product((bare, line, ring), itertools.permutations(range(1, 5), 2)):
            told = counted_layers(shape(one), shape(other), 6)
            self.assertEqual(told[0], plain_pairings(shape(one), shape(other), 4))
            self.assertEqual(told[1:], [[]] * 6)

    def test_by_hand(self):
        self.assertEqual(counted_layers(bare(1), bare(1), 2), [[(), ((0, 0),)]] * 3)
        one = (2, (("red", (0,)),), ())
        self.assertEqual(counted_layers(one, (2, (("red", (0, 1)),), ()), 1), [[(), ((0, 0),), ((0, 1),)], []])
        self.assertEqual(counted_layers(one, (2, (("red", (1,)),), ()), 1)[1],
                         [(), ((0, 1),), ((1, 0),), ((0, 1), (1, 0))])

    def test_the_lists_are_of_their_own(self):
        for one, other in couples()[::31] + [(bare(2), bare(2)), (line(4), line(4)), (bare(3), bare(4))]:
            for depth in (0, 2, 6):
                right = plain_counted(one, other)[:depth + 1]
                lists_of_their_own(self, lambda: counted_layers(one, other, depth), right)


class MapTest(unittest.TestCase):
    def check(self, one, other, depth, pairs):
        told = counted_map(one, other, depth, pairs)
        pairing = tuple(sorted(set(pairs or ())))
        if pairing not in plain_counted(one, other)[depth]:
            self.assertIsNone(told, (one, other, depth, pairs))
            return False
        self.assertIs(type(told), tuple)
        self.assertEqual(sorted(told), list(range(other[0])))
        self.assertEqual(len(told), one[0])
        for pair in enumerate(told):
            self.assertIn(plain_added(pairing, pair), plain_counted(one, other)[depth - 1])
        return True

    def test_each_pairing(self):
        found = {}
        for one, other in chosen()[::3] + list(DEEP_COUNTED):
            for pairing, depth in itertools.product(plain_pairings(one, other, 4), (1, 2, 3, 6)):
                there = self.check(one, other, depth, pairing)
                found[depth, there] = found.get((depth, there), 0) + 1
        self.assertEqual(len(found), 8)
        self.assertGreater(min(found.values()), 200)

    def test_each_depth(self):
        for one, other in list(DEEP_COUNTED) + [(line(3), line(4)), (bare(4), bare(4)), (ring(4), ring(4))]:
            for depth in range(1, 7):
                self.check(one, other, depth, ())
                self.check(one, other, depth, None)
                self.check(one, other, depth, ((0, 1),))

    def test_pairs_that_do_not_fit(self):
        for one, other in couples()[::20] + [(bare(3), bare(3))]:
            for pairs in subsets(itertools.product(range(one[0]), range(other[0])), 2):
                if not plain_fits(one, other, pairs):
                    for depth in (1, 2, 6):
                        self.assertIsNone(counted_map(one, other, depth, pairs))

    def test_by_hand(self):
        one = (3, (("red", (0,)), ("see", (1,))), ())
        other = (3, (("red", (1,)), ("see", (2,))), ())
        for depth in range(1, 7):
            self.assertEqual(counted_map(one, other, depth, ()), (1, 2, 0))
            self.assertEqual(counted_map(one, other, depth, None), (1, 2, 0))
            self.assertEqual(counted_map(one, other, depth, ((2, 0),)), (1, 2, 0))
        self.assertEqual(counted_map(bare(2), bare(2), 1, ((0, 1),)), (1, 0))
        self.assertIsNone(counted_map(bare(2), bare(3), 1, ()))
        self.assertIsNone(counted_map(bare(3), bare(2), 1, ()))


class PartedTest(unittest.TestCase):
    def test_each_pairing(self):
        found = {}
        for one, other in chosen():
            for pairing in plain_pairings(one, other, 4):
                depth = counted_parted(one, other, pairing)
                self.assertEqual(depth, plain_parted(plain_counted(one, other), pairing), (one, other, pairing))
                found[depth] = found.get(depth, 0) + 1
        self.assertEqual(set(found), {1, 2, 3, None})

    def test_never_above_parted(self):
        lower = 0
        for one, other in chosen():
            for pairing in plain_pairings(one, other, 2):
                depth, uncounted = counted_parted(one, other, pairing), parted(one, other, pairing)
                self.assertIs(depth is None, uncounted is None)
                if depth is not None:
                    self.assertLessEqual(depth, uncounted)
                    lower += depth < uncounted
        self.assertGreater(lower, 100)

    def test_never_parted_just_where_an_order_has_these_pairs(self):
        for one, other in chosen()[::2]:
            orders = plain_turns(one, other)
            for pairing in plain_pairings(one, other, 4):
                turned = any(all(order[a] == b for a, b in pairing) for order in orders)
                self.assertIs(counted_parted(one, other, pairing) is None, turned)

    def test_pairs_that_do_not_fit_are_parted_at_0(self):
        for one, other in couples()[::12]:
            for pairs in subsets(itertools.product(range(one[0]), range(other[0])), 2):
                depth = counted_parted(one, other, pairs)
                self.assertIs(depth == 0, not plain_fits(one, other, pairs))
                self.assertNotIsInstance(depth, bool)

    def test_unlike_numbers_of_points(self):
        for one, other in itertools.permutations(range(1, 5), 2):
            self.assertEqual(counted_parted(bare(one), bare(other)), 1)
            self.assertEqual(counted_parted(bare(one), bare(other), ((0, 0),)), 1)
            self.assertEqual(counted_parted(line(one), line(other), None), 1)

    def test_deep(self):
        for one, other in DEEP_COUNTED:
            self.assertEqual(counted_parted(one, other), 3)
            self.assertEqual(counted_parted(other, one, ()), 3)

    def test_none_and_in_any_order(self):
        for one, other in couples()[::7]:
            self.assertEqual(counted_parted(one, other), plain_parted(plain_counted(one, other), ()))
            self.assertEqual(counted_parted(one, other, None), plain_parted(plain_counted(one, other), ()))
            for pairing in plain_pairings(one, other, 4)[::3]:
                depth = plain_parted(plain_counted(one, other), pairing)
                self.assertEqual(counted_parted(one, other, pairing[::-1] + pairing), depth)


class PartingTest(unittest.TestCase):
    def check(self, one, other, pairs):
        saying = counted_parting(one, other, pairs)
        depth = plain_parted(plain_counted(one, other), pairs)
        saying_parts(self, one, other, pairs, saying, depth)
        return depth

    def test_no_pairs(self):
        found = {}
        for one, other in chosen() + [(other, one) for one, other in chosen()]:
            depth = self.check(one, other, ())
            self.check(one, other, None)
            self.assertEqual(counted_parting(one, other), counted_parting(one, other, ()))
            found[depth] = found.get(depth, 0) + 1
        self.assertEqual(set(found), {1, 2, 3, None})

    def test_each_pairing(self):
        found = {}
        for one, other in chosen()[::3] + list(DEEP_COUNTED):
            for pairing in plain_pairings(one, other, 4):
                depth = self.check(one, other, pairing)
                found[depth] = found.get(depth, 0) + 1
        self.assertEqual(set(found), {1, 2, 3, None})

    def test_up_to_eight_pairs(self):
        source = numbers(4)
        found = {}
        alike = [(shape(many), shape(many)) for shape in (bare, line, ring) for many in range(1, 5)]
        for one, other in chosen()[::7] + list(DEEP_COUNTED) + deep_couples() + alike:
            for pairs in up_to_eight_pairs(one, other, source):
                depth = self.check(one, other, pairs)
                found[len(pairs), depth] = found.get((len(pairs), depth), 0) + 1
        for length in range(2, 9):
            for depth in (0, 1, None):
                self.assertGreater(found[length, depth], 10)

    def test_pairs_that_do_not_fit(self):
        for one, other in couples()[::15]:
            for pairs in subsets(itertools.product(range(one[0]), range(other[0])), 2):
                self.check(one, other, pairs[::-1])

    def test_unlike_numbers_of_points(self):
        for shape, (one, other) in itertools.product((bare, line, ring), itertools.permutations(range(1, 5), 2)):
            self.assertEqual(self.check(shape(one), shape(other), ()), 1)
            for pair in itertools.product(range(one), range(other)):
                self.check(shape(one), shape(other), (pair,))

    def test_counting_tells_what_plain_sayings_of_the_depth_do_not(self):
        one = (4, (("red", (0,)),), ())
        other = (4, (("red", (0, 1)),), ())
        self.assertEqual(parted(one, other), 2)
        self.assertEqual(self.check(one, other, ()), 1)
        self.assertFalse(is_plain(counted_parting(one, other)))

    def test_many_names(self):
        worlds = made_worlds(16, (4,), (("aa", "bb", "cc"), ("aa", "dd", "ee")), 9)
        for one, other in zip(worlds, worlds[1:] + worlds[:1]):
            self.check(one, other, ())
            self.check(one, near(one), ())


class AgreeingTest(unittest.TestCase):
    """What holds of pairings in a counted layer by [29]."""

    def test_sayings_with_least(self):
        pool = made_sayings("abcd", MARKED, 700, 4)
        counting = [saying for saying in pool if not is_plain(saying)]
        self.assertGreater(len(counting), 100)
        pool = counting + [saying for saying in pool if is_plain(saying)][::3]
        chosen_here = marked_couples(lambda one, other: plain_counted(one, other)[1:5])
        compared, parts = agreeing(self, chosen_here[::2], counted_layers, pool)
        self.assertGreater(min(compared), 1000)
        self.assertGreater(parts, 500)


class RefusedTest(unittest.TestCase):
    calls = (
        counted_parted,
        counted_parting,
        lambda one, other: counted_layers(one, other, 2),
        lambda one, other: counted_layers(one, other, -1),
        lambda one, other: counted_layers(one, other, None),
        lambda one, other: counted_map(one, other, 2, ()),
        lambda one, other: counted_map(one, other, 0, None),
        lambda one, other: counted_map(one, other, True, ((0, 0), (0, 1))),
        lambda one, other: counted_parted(one, other, ((0, 0), (0, 1))),
        lambda one, other: counted_parting(one, other, ((0, 0),)),
    )

    def test_worlds_ahead_of_all_else(self):
        for call in self.calls:
            worlds_refused(self, call)

    def test_depths(self):
        for depth in BAD_DEPTHS:
            refused(self, NoCount, ("told", depth), counted_layers, WORLD, WORLD, depth)
        for depth in (0,) + BAD_DEPTHS:
            for pairs in ((), None, ((0, 0), (0, 1))):
                refused(self, NoCount, ("told", depth), counted_map, WORLD, WORLD, depth, pairs)

    def test_what_is_not_refused(self):
        for depth in range(7):
            self.assertEqual(len(counted_layers(WORLD, WORLD, depth)), depth + 1)
        self.assertIsNone(counted_parted(bare(4), bare(4)))
        self.assertIsNone(counted_parting(bare(4), bare(4)))


if __name__ == "__main__":
    unittest.main()
