"""Sayings that part pairs."""

import itertools
import unittest

from helper import all_worlds, bare, couples, deep_couples, line, made_worlds, near, numbers, plain_depth
from helper import plain_pairings, plain_turns, ring, saying_parts, subsets, up_to_eight_pairs, worlds_refused

from pickalike.layers import layers, parted
from pickalike.parts import parting
from pickalike.sayings import is_plain


class PartingTest(unittest.TestCase):
    def check(self, one, other, pairs, depth):
        """Holds that the pairs are parted by a saying of the depth, or by none where that is None; tells the saying."""
        saying = parting(one, other, pairs)
        saying_parts(self, one, other, pairs, saying, depth)
        self.assertTrue(saying is None or is_plain(saying))
        return saying

    def test_no_pairs(self):
        found = {}
        for one, other in couples() + [(other, one) for one, other in couples()]:
            depth = parted(one, other)
            self.check(one, other, (), depth)
            self.check(one, other, None, depth)
            self.assertEqual(parting(one, other), parting(one, other, ()))
            self.assertEqual(parting(one, other, None), parting(one, other, ()))
            found[depth] = found.get(depth, 0) + 1
        self.assertEqual(set(found), {1, 2, 3, 4, None})

    def test_all_couples_of_one_and_two_points(self):
        for one, other in itertools.product(all_worlds(1) + all_worlds(2)[::2], all_worlds(2)):
            self.check(one, other, (), parted(one, other))

    def test_never_parted_just_where_an_order_turns_the_one_into_the_other(self):
        found = {True: 0, False: 0}
        for one, other in couples():
            turned = plain_turns(one, other) != []
            self.assertIs(parting(one, other) is None, turned)
            found[turned] += 1
        self.assertGreater(min(found.values()), 20)

    def test_for_each_depth_one_of_two_is_so(self):
        for one, other in couples()[::5] + deep_couples():
            told = layers(one, other, 6)
            saying = parting(one, other)
            for depth in range(7):
                self.assertIs(() in told[depth], saying is None or plain_depth(saying) > depth)

    def test_parted_at_4_alone(self):
        for one, other in deep_couples():
            self.assertEqual(parted(one, other), 4)
            self.check(one, other, (), 4)
            for pairing in plain_pairings(one, other, 3):
                self.check(one, other, pairing, 4 - len(pairing))

    def test_lines_and_rings(self):
        self.assertEqual(plain_depth(self.check(line(3), line(4), (), 3)), 3)
        self.check(line(4), line(3), (), 3)
        self.check(ring(3), ring(4), (), 2)
        self.check(ring(4), ring(4), ((0, 1), (1, 2)), None)
        self.check(ring(4), ring(4), ((0, 1), (1, 3)), 0)
        self.check(ring(4), ring(4), ((0, 1), (2, 3)), None)

    def test_each_pairing(self):
        found = {}
        for one, other in couples()[::3] + [(ring(4), near(ring(4))), (line(4), near(line(4))), (bare(4), bare(4))]:
            for pairing in plain_pairings(one, other, 4):
                depth = parted(one, other, pairing)
                self.check(one, other, pairing, depth)
                found[depth] = found.get(depth, 0) + 1
        self.assertLessEqual({1, 2, 3, None}, set(found))
        self.assertGreater(min(found[depth] for depth in (1, 2, None)), 50)

    def test_pairs_in_any_order_and_twice(self):
        for one, other in couples()[::9] + deep_couples():
            for pairing in plain_pairings(one, other, 4):
                depth = parted(one, other, pairing)
                self.check(one, other, pairing[::-1], depth)
                self.check(one, other, pairing + pairing, depth)
                self.check(one, other, (pairing[1:] + pairing[:1] + pairing[::-1])[:8], parted(one, other, pairing))

    def test_pairs_that_do_not_fit(self):
        found = 0
        for one, other in couples()[::6]:
            for pairs in subsets(itertools.product(range(one[0]), range(other[0])), 2):
                depth = parted(one, other, pairs)
                self.check(one, other, pairs, depth)
                self.check(one, other, pairs[::-1], depth)
                found += depth == 0
        self.assertGreater(found, 1000)

    def test_up_to_eight_pairs(self):
        source = numbers(3)
        found = {}
        worlds = couples()[::4] + deep_couples() + [(world, world) for world in (bare(4), ring(4), line(2))]
        for one, other in worlds:
            for pairs in up_to_eight_pairs(one, other, source):
                depth = parted(one, other, pairs)
                self.check(one, other, pairs, depth)
                found[len(pairs), depth] = found.get((len(pairs), depth), 0) + 1
        for length in range(1, 9):
            self.assertGreater(found[length, 1], 10)
            self.assertGreater(found[length, None], 10)

    def test_the_letters_stand_at_the_pairs_in_their_order(self):
        one = (2, (("red", (0,)),), ())
        other = (2, (("red", (0, 1)),), ())
        self.assertEqual(parting(one, other, ((0, 0), (1, 1))), ("not", ("mark", "red", "b")))
        self.assertEqual(parting(one, other, ((1, 1), (0, 0))), ("not", ("mark", "red", "a")))
        self.assertEqual(parting(other, one, ((0, 0), (0, 0), (1, 1))), ("mark", "red", "c"))

    def test_what_parts_without_marks_and_arrows(self):
        self.check(bare(1), bare(2), (), 2)
        self.check(bare(2), bare(2), ((0, 0), (0, 1)), 0)
        self.check(bare(2), bare(2), ((0, 0), (1, 0)), 0)
        self.check(bare(2), bare(1), ((1, 0),), 1)
        self.check(bare(4), bare(4), ((0, 3), (3, 1), (2, 2), (1, 0)), None)

    def test_each_name_of_the_tongue(self):
        empty = (2, (("aa", ()), ("bb", ()), ("cc", ())), (("aa", ()), ("dd", ()), ("ee", ())))
        for at, points in itertools.product(range(3), ((0,), (1,), (0, 1))):
            marks = tuple((name, points if k == at else ()) for k, (name, none) in enumerate(empty[1]))
            other = (2, marks, empty[2])
            self.check(empty, other, (), 1)
            self.check(other, empty, (), 1)
        for at, pairs in itertools.product(range(3), (((0, 0),), ((0, 1),), ((1, 0),))):
            arrows = tuple((name, pairs if k == at else ()) for k, (name, none) in enumerate(empty[2]))
            other = (2, empty[1], arrows)
            self.check(empty, other, (), 1 if pairs == ((0, 0),) else 2)
            self.check(empty, other, ((0, 0), (1, 1)), 0)
            self.check(other, empty, ((1, 0), (0, 1)), 0)

    def test_four_points_with_many_names(self):
        tongue = (("aaaaaaaa", "bbbbbbbb", "cccccccc"), ("aaaaaaaa", "dddddddd", "eeeeeeee"))
        worlds = made_worlds(12, (4,), tongue, 9)
        for one, other in zip(worlds, worlds[1:] + worlds[:1]):
            self.check(one, other, (), parted(one, other))
            self.check(one, near(one), (), parted(one, near(one)))

    def test_asked_again_the_same_is_told(self):
        for one, other in couples()[::20]:
            self.assertEqual(parting(one, other), parting(one, other))

    def test_refused(self):
        for pairs in (None, (), ((0, 0),), ((0, 0), (0, 1))):
            worlds_refused(self, lambda one, other: parting(one, other, pairs))
        worlds_refused(self, parting)


if __name__ == "__main__":
    unittest.main()
