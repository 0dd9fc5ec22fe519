"""The promise over the whole program, by [3]: all that is told of two worlds goes together."""

import unittest

from helper import DEEP_COUNTED, MARKED, bare, couples, deep_couples, line, made_sayings, plain_depth, plain_fits
from helper import plain_layers, plain_turns

from pickalike.counted import counted_map, counted_parted, counted_parting
from pickalike.few import few_parting
from pickalike.kinds import beside_kind, kind
from pickalike.layers import answers, layers, parted
from pickalike.parts import parting
from pickalike.players import Copier, Picker
from pickalike.points import classes, defining
from pickalike.sayings import free_of, holds, is_plain
from pickalike.sheets import sheet_holds
from pickalike.worlds import beside, tongue_of


def chosen():
    """Couples of worlds, alike and not."""
    return couples()[::6] + deep_couples() + list(DEEP_COUNTED) + [(line(3), line(4)), (bare(4), bare(4))]


class DepthsTest(unittest.TestCase):
    def test_just_one_of_two_is_so_for_each_depth(self):
        for one, other in chosen():
            told = layers(one, other, 6)
            saying = parting(one, other)
            for depth, layer in enumerate(told):
                parts = saying is not None and plain_depth(saying) <= depth
                self.assertIsNot(() in layer, parts)
            if saying is not None:
                self.assertIs(holds(one, saying), True)
                self.assertIs(holds(other, saying), False)
                self.assertEqual(plain_depth(saying), parted(one, other))

    def test_each_pick_has_an_answer_and_so_on_down(self):
        for one, other in chosen()[::3]:
            for depth, layer in enumerate(layers(one, other, 4)):
                if depth == 0:
                    continue
                below = plain_layers(one, other, depth - 1)[depth - 1]
                for pairing in layer[:30]:
                    for side, point in [(0, k) for k in range(one[0])] + [(1, k) for k in range(other[0])]:
                        told = answers(one, other, depth - 1, pairing, side, point)
                        self.assertNotEqual(told, [])
                        for answer in told:
                            pair = (point, answer) if side == 0 else (answer, point)
                            self.assertIn(tuple(sorted({*pairing, pair})), below)

    def test_no_shallower_saying_parts(self):
        pool = [saying for saying in made_sayings("xyz", MARKED, 1500, 4) if not free_of(saying)]
        found = 0
        for one, other in [couple for couple in chosen() if tongue_of(couple[0]) == MARKED]:
            depth, counted = parted(one, other), counted_parted(one, other)
            for saying in pool:
                if holds(one, saying) != holds(other, saying):
                    found += 1
                    self.assertGreaterEqual(plain_depth(saying), counted)
                    if is_plain(saying):
                        self.assertGreaterEqual(plain_depth(saying), depth)
        self.assertGreater(found, 500)

    def test_never_parted_just_where_an_order_turns_the_one_into_the_other(self):
        for one, other in chosen():
            turned = plain_turns(one, other) != []
            self.assertIs(parting(one, other) is None, turned)
            self.assertIs(counted_parting(one, other) is None, turned)
            self.assertIs(counted_map(one, other, 6, ()) is not None, turned)
            self.assertIs(() in layers(one, other, 6)[6], turned)

    def test_kinds(self):
        for one, other in chosen():
            depth = parted(one, other)
            for step in range(5):
                if max(one[0], other[0]) ** step <= 600:
                    self.assertIs(kind(one, step) == kind(other, step), depth is None or step < depth)
            for step in range(3):
                self.assertEqual(beside_kind(kind(one, step), kind(other, step)), kind(beside(one, other), step))

    def test_few_letters_part_no_more_than_many(self):
        for one, other in chosen():
            told = [few_parting(one, other, letters) for letters in (1, 2, 3)]
            for sheet in told:
                if sheet is not None:
                    self.assertIsNotNone(parted(one, other))
                    self.assertIsNot(sheet_holds(one, sheet), sheet_holds(other, sheet))
            for fewer, more in zip(told, told[1:]):
                self.assertTrue(fewer is None or more is not None)

    def test_points(self):
        for one, other in chosen()[::2]:
            for depth in (0, 1, 2, 4):
                for group in classes(one, depth):
                    saying = defining(one, depth, group[0])
                    self.assertEqual([k for k in range(one[0]) if holds(one, saying, {"a": k})], list(group))


class HandsTest(unittest.TestCase):
    def test_the_picker_against_the_copier(self):
        found = set()
        for one, other in chosen():
            depth = parted(one, other)
            if depth is None:
                continue
            # With fewer picks than the depth the copier never loses; the picker wins with as many.
            picker, copier = Picker(one, other), Copier([one], [other], depth)
            short = Copier([one], [other], depth - 1)
            for turn in range(depth):
                side, point = picker.pick()
                if turn < depth - 1:
                    short.answer(side, point)
                    self.assertTrue(plain_fits(one, other, short.pairs()))
                picker.answered(copier.answer(side, point))
                self.assertEqual(picker.pairs(), copier.pairs())
                self.assertIs(plain_fits(one, other, picker.pairs()), turn < depth - 1)
            found.add(depth)
        self.assertEqual(found, {1, 2, 3, 4})


if __name__ == "__main__":
    unittest.main()
