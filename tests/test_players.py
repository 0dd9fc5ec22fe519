"""Hands that play: the copier and the picker."""

import functools
import itertools
import unittest

from helper import NO_NUMBERS, OTHER_TONGUES, bare, couples, deep_couples, full, line, made_worlds, near, numbers
from helper import plain_fits, plain_layers, plain_moved, refused, ring, worlds_refused

from pickalike.errors import NoCount, NoMore, NoPoint, NoTongue, TooMany
from pickalike.layers import parted
from pickalike.players import Copier, Picker
from pickalike.worlds import beside, tongue_of


def laid(worlds):
    """The worlds laid side by side."""
    return functools.reduce(beside, worlds)


def alike_to(one, other, depth, pairs=()):
    """Whether the pairs are in the layer of this depth."""
    return tuple(sorted(set(pairs))) in plain_layers(one, other, depth)[depth]


def all_picks(ones, others):
    """All picks on worlds laid side by side."""
    both = [sum(world[0] for world in row) for row in (ones, others)]
    return [(side, point) for side in (0, 1) for point in range(both[side])]


# Rows of worlds that are alike, one by one, to the number of picks.
ALIKE = (
    ([line(3)], [line(4)], 2),
    ([line(4)], [line(3)], 2),
    ([bare(3)], [bare(4)], 3),
    ([bare(4)], [bare(4)], 4),
    ([bare(1)], [bare(1)], 6),
    ([ring(4)], [plain_moved(ring(4), (2, 0, 3, 1))], 3),
    ([line(1), line(3)], [line(1), line(4)], 2),
    ([line(3), line(4)], [line(4), line(3)], 2),
    ([bare(2), bare(3)], [bare(3), bare(2)], 2),
    ([ring(2), line(2), ring(2)], [ring(2), line(2), ring(2)], 3),
    ([bare(1), bare(1), bare(2)], [bare(2), bare(1), bare(4)], 1),
    ([ring(3), full(1), line(3)], [plain_moved(ring(3), (1, 0, 2)), full(1), line(4)], 2),
    ([bare(4), bare(4)], [bare(3), bare(3)], 3),
)


class CopierTest(unittest.TestCase):
    def play(self, ones, others, picks, turns):
        """Plays the turns, holding that each is answered by a point of the other side; tells the pairs."""
        copier = Copier(ones, others, picks)
        both = [sum(world[0] for world in row) for row in (ones, others)]
        told = []
        for side, point in turns:
            self.assertEqual(copier.pairs(), told)
            answer = copier.answer(side, point)
            self.assertIs(type(answer), int)
            self.assertIn(answer, range(both[1 - side]))
            told.append((point, answer) if side == 0 else (answer, point))
        self.assertEqual(copier.pairs(), told)
        self.assertIsInstance(copier.pairs(), list)
        if len(turns) == picks:
            refused(self, NoMore, None, copier.answer, 0, 0)
        return told

    def test_whatever_is_picked(self):
        for ones, others, picks in ALIKE:
            for one, other in zip(ones, others):
                self.assertTrue(alike_to(one, other, picks))
            rows = list(itertools.product(all_picks(ones, others), repeat=picks)) if picks < 5 else []
            rows = rows or [((k % 2, 0),) * picks for k in range(2)]
            one, other = laid(ones), laid(others)
            for turns in rows[::1 + len(rows) // 400]:
                pairs = self.play(ones, others, picks, turns)
                self.assertTrue(plain_fits(one, other, pairs), (ones, others, picks, pairs))

    def test_each_single_and_each_two_picks(self):
        for ones, others, picks in ALIKE:
            one, other = laid(ones), laid(others)
            for length in range(min(picks, 2) + 1):
                rows = list(itertools.product(all_picks(ones, others), repeat=length))
                for turns in rows[::1 + len(rows) // 150]:
                    self.assertTrue(plain_fits(one, other, self.play(ones, others, picks, turns)))

    def test_made_worlds(self):
        source = numbers(6)
        found = {}
        made = couples()
        for turn, (one, other) in enumerate(made):
            again = [couple for couple in made[turn % 7::7] if tongue_of(couple[0]) == tongue_of(one)]
            rows = [(one, other)] + again[:turn % 3]
            ones, others = [row[0] for row in rows], [row[1] for row in rows]
            if sum(world[0] for world in ones) > 8 or sum(world[0] for world in others) > 8:
                continue
            picks = [depth for depth in range(4) if all(alike_to(*row, depth) for row in rows)][-1]
            both = all_picks(ones, others)
            for step in range(4):
                turns = [both[next(source) % len(both)] for k in range(picks)]
                pairs = self.play(ones, others, picks, turns)
                self.assertTrue(plain_fits(laid(ones), laid(others), pairs), (ones, others, pairs))
            found[len(rows), picks] = found.get((len(rows), picks), 0) + 1
        self.assertLessEqual({(1, 1), (1, 3), (2, 1), (3, 1)}, set(found))

    def test_where_they_are_not_alike_a_point_is_answered_all_the_same(self):
        source = numbers(9)
        rows = [([one], [other]) for one, other in couples()[::7] + deep_couples()]
        rows += [([line(4), ring(1)], [line(2), ring(4)]), ([bare(1), bare(4), bare(3)], [bare(4), bare(1), bare(2)])]
        apart = 0
        for ones, others in rows:
            both = all_picks(ones, others)
            for picks in (1, 3, 6):
                pairs = self.play(ones, others, picks, [both[next(source) % len(both)] for k in range(picks)])
                apart += not plain_fits(laid(ones), laid(others), pairs)
        self.assertGreater(apart, 50)

    def test_once_in_the_layer_of_the_picks_to_come_it_never_loses(self):
        # The worlds are parted at 2, but a pick of a point without an arrow leaves them alike for one pick more.
        one = (3, (), (("to", ((0, 1),)),))
        other = (3, (), (("to", ((0, 1), (1, 0))),))
        self.assertEqual(parted(one, other), 2)
        for side, last in itertools.product((0, 1), all_picks([one], [other])):
            pairs = self.play([one], [other], 2, [(side, 2), last])
            self.assertTrue(alike_to(one, other, 1, pairs[:1]))
            self.assertTrue(plain_fits(one, other, pairs), pairs)

    def test_points_of_later_worlds_are_numbered_on(self):
        ones = [(1, (("red", ()),), ()), (2, (("red", (1,)),), ()), (1, (("red", ()),), ())]
        others = [(1, (("red", ()),), ()), (2, (("red", (0,)),), ()), (1, (("red", ()),), ())]
        copier = Copier(ones, others, 5)
        self.assertEqual([copier.answer(0, point) for point in range(4)], [0, 2, 1, 3])
        self.assertEqual(copier.answer(1, 1), 2)
        self.assertEqual(copier.pairs(), [(0, 0), (1, 2), (2, 1), (3, 3), (2, 1)])

    def test_a_point_picked_again(self):
        for side, point in itertools.product((0, 1), range(3)):
            copier = Copier([line(3)], [plain_moved(line(3), (2, 0, 1))], 6)
            answer = copier.answer(side, point)
            for step in range(2):
                self.assertEqual(copier.answer(side, point), answer)
                self.assertEqual(copier.answer(1 - side, answer), point)

    def test_the_pairs_are_a_list_of_their_own(self):
        copier = Copier([bare(2)], [bare(2)], 3)
        self.assertEqual(copier.pairs(), [])
        copier.pairs().append((7, 7))
        answer = copier.answer(0, 1)
        told = copier.pairs()
        self.assertEqual(told, [(1, answer)])
        told.clear()
        self.assertEqual(copier.pairs(), [(1, answer)])
        told.append((0, 0))
        self.assertEqual(copier.answer(1, answer), 1)
        self.assertEqual(copier.pairs(), [(1, answer)] * 2)

    def test_the_lists_handed_in_may_be_changed(self):
        ones, others = [line(3), ring(3)], [line(4), ring(3)]
        copier = Copier(ones, others, 2)
        ones[0] = bare(1)
        ones.clear()
        others.reverse()
        others.append("more")
        pairs = [copier.answer(1, 3), copier.answer(0, 3)]
        self.assertEqual(pairs[0], 2)
        self.assertIn(pairs[1], (4, 5, 6))
        self.assertTrue(plain_fits(laid([line(3), ring(3)]), laid([line(4), ring(3)]), copier.pairs()))
        same = [line(2)]
        copier = Copier(same, same, 1)
        same.clear()
        self.assertEqual(copier.answer(0, 1), 1)

    def test_no_picks(self):
        for ones, others in (([line(3)], [line(4)]), ([bare(1), bare(2)], [bare(4), bare(4)])):
            copier = Copier(ones, others, 0)
            for side, point in itertools.product((0, 1, 2, None), (0, 9, None)):
                refused(self, NoMore, None, copier.answer, side, point)
            self.assertEqual(copier.pairs(), [])

    def test_two_copiers_share_nothing(self):
        one, other = Copier([bare(2)], [bare(2)], 1), Copier([bare(2)], [bare(2)], 1)
        one.answer(0, 1)
        self.assertEqual(other.pairs(), [])
        self.assertEqual(len([other.answer(1, 1)]), 1)


class CopierRefusesTest(unittest.TestCase):
    world = (2, (("red", ()),), (("to", ()),))

    def test_no_tongue_ahead_of_all_else(self):
        big = (7,) + self.world[1:]
        for other, picks in itertools.product(OTHER_TONGUES, (2, 7, None, True)):
            for ones, others in (
                ([self.world], [other]), ([other], [self.world]), ([self.world, other], [self.world, self.world]),
                ([self.world, self.world], [self.world, other]), ([other, other], [self.world, self.world]),
                ([big, big], [big, other]), ([self.world, big, other], [big] * 3),
                ([self.world, self.world, other],) * 2, ([other, self.world], [other, self.world]),
            ):
                refused(self, NoTongue, None, Copier, ones, others, picks)

    def test_too_many_in_one_world(self):
        for many, picks in itertools.product((5, 6, 7, 8), (0, 6, 7, -1, None)):
            for ones, others in (
                ([bare(many)], [bare(1)]), ([bare(1)], [bare(many)]), ([bare(1), bare(many)], [bare(1), bare(2)]),
                ([bare(4), bare(4)], [bare(1), bare(many)]), ([bare(many)], [bare(13 - many)]),
                ([bare(4)] * 3, [bare(1), bare(1), bare(many)]), ([bare(4), bare(many), bare(8)], [bare(8)] * 3),
                ([bare(4), bare(4), bare(4)], [bare(many), bare(8), bare(8)]),
            ):
                refused(self, TooMany, ("many", many), Copier, ones, others, picks)

    def test_too_many_together(self):
        for picks in (0, 6, 7, -1, None):
            for row in ([4, 4, 1], [4, 4, 4], [3, 4, 2], [3, 3, 3], [1, 4, 4]):
                worlds = [bare(many) for many in row]
                few = [bare(1), bare(3), bare(4)]
                refused(self, TooMany, ("many", sum(row)), Copier, worlds, few, picks)
                refused(self, TooMany, ("many", sum(row)), Copier, few, worlds, picks)
                refused(self, TooMany, ("many", sum(row)), Copier, worlds, [bare(4), bare(4), bare(2)], picks)
        Copier([bare(4), bare(4)], [bare(4), bare(4)], 6)
        Copier([bare(4), bare(3), bare(1)], [bare(1), bare(1), bare(4)], 6)

    def test_picks(self):
        for picks in (-1, 7, 8, -2, 10 ** 300, -(10 ** 300)) + NO_NUMBERS:
            refused(self, NoCount, ("told", picks), Copier, [bare(2)], [bare(2)], picks)
            refused(self, NoCount, ("told", picks), Copier, [line(2), ring(3)], [line(4), ring(4)], picks)
        for picks in range(7):
            Copier([bare(2)], [bare(2)], picks)

    def test_sides_ahead_of_points(self):
        copier = Copier([bare(2), bare(1)], [bare(4), bare(4)], 2)
        for side in (-1, 2, 3, 10 ** 300) + NO_NUMBERS:
            for point in (0, 9, -1, None, True, "0"):
                refused(self, NoCount, ("told", side), copier.answer, side, point)
        self.assertEqual(copier.pairs(), [])

    def test_points(self):
        copier = Copier([bare(2), bare(1)], [bare(4), bare(4)], 2)
        for point in (-1, 8, 9, 10 ** 300) + NO_NUMBERS:
            refused(self, NoPoint, ("point", point), copier.answer, 0, point)
            refused(self, NoPoint, ("point", point), copier.answer, 1, point)
        for point in range(3, 9):
            refused(self, NoPoint, ("point", point), copier.answer, 0, point)
        self.assertIn(copier.answer(1, 7), range(3))

    def test_what_is_refused_is_no_pick(self):
        copier = Copier([ring(3)], [ring(3)], 2)
        for step in range(2):
            for turn in range(5):
                refused(self, NoCount, ("told", 2), copier.answer, 2, 0)
                refused(self, NoPoint, ("point", 3), copier.answer, 0, 3)
            self.assertEqual(len(copier.pairs()), step)
            copier.answer(step, 1)
        told = copier.pairs()
        for turn in range(3):
            refused(self, NoMore, None, copier.answer, 0, 0)
            refused(self, NoMore, None, copier.answer, 2, None)
        self.assertEqual(copier.pairs(), told)
        self.assertTrue(plain_fits(ring(3), ring(3), told))


class PickerTest(unittest.TestCase):
    def is_pick(self, sides, pick):
        """Holds that this is a pick; tells the number of points of the other side."""
        self.assertIs(type(pick), tuple)
        side, point = pick
        self.assertIs(type(side), int)
        self.assertIs(type(point), int)
        self.assertIn(side, (0, 1))
        self.assertIn(point, range(sides[side][0]))
        return sides[1 - side][0]

    def play(self, one, other, answers):
        """Plays the answers, each taken down to how many points there are; tells the pairs."""
        picker = Picker(one, other)
        told = []
        for answer in answers:
            self.assertEqual(picker.pairs(), told)
            pick = picker.pick()
            many = self.is_pick((one, other), pick)
            self.assertEqual(picker.pick(), pick)
            self.assertIsNone(picker.answered(answer % many))
            told.append((pick[1], answer % many) if pick[0] == 0 else (answer % many, pick[1]))
        self.assertEqual(picker.pairs(), told)
        self.assertIsInstance(picker.pairs(), list)
        return told

    def test_whatever_is_answered(self):
        found = {}
        for one, other in couples()[::3] + deep_couples() + [(other, one) for one, other in couples()[::7]]:
            depth = parted(one, other)
            if depth is None:
                continue
            found[depth] = found.get(depth, 0) + 1
            for answers in itertools.product(range(max(one[0], other[0])), repeat=depth):
                pairs = self.play(one, other, answers)
                self.assertFalse(plain_fits(one, other, pairs), (one, other, pairs))
        self.assertEqual(set(found), {1, 2, 3, 4})

    def test_not_ahead_of_the_depth_where_it_is_answered_well(self):
        for one, other in ((line(3), line(4)), (bare(3), bare(4)), (ring(4), near(ring(4))), (bare(2), bare(1))):
            depth = parted(one, other)
            rows = [self.play(one, other, answers) for answers in itertools.product(range(4), repeat=depth - 1)]
            self.assertTrue(any(plain_fits(one, other, pairs) for pairs in rows))

    def test_turns_beyond(self):
        for one, other in couples()[::19]:
            if parted(one, other) is not None:
                for start in range(4):
                    pairs = self.play(one, other, [start + k for k in range(7)])
                    self.assertEqual(len(pairs), 7)
                    self.assertFalse(plain_fits(one, other, pairs))

    def test_answered_without_a_pick_between(self):
        for one, other in [(line(3), line(4)), (bare(4), bare(3)), (ring(3), ring(4))]:
            depth = parted(one, other)
            for answer in range(3):
                asked = Picker(one, other)
                unasked = Picker(one, other)
                for step in range(depth + 2):
                    asked.pick()
                    asked.answered(answer)
                    self.assertIsNone(unasked.answered(answer))
                    self.assertEqual(unasked.pairs(), asked.pairs())
                self.assertFalse(plain_fits(one, other, unasked.pairs()))
                self.assertEqual(unasked.pick(), asked.pick())

    def test_no_point_changes_nothing(self):
        for one, other in [(line(3), line(4)), (bare(1), bare(3)), (bare(3), bare(1))]:
            picker = Picker(one, other)
            for step in range(parted(one, other) + 2):
                pick = picker.pick()
                many = self.is_pick((one, other), pick)
                kept = picker.pairs()
                for point in (-1, many, many + 1, 10 ** 300) + NO_NUMBERS:
                    refused(self, NoPoint, ("point", point), picker.answered, point)
                    self.assertEqual(picker.pick(), pick)
                self.assertEqual(picker.pairs(), kept)
                picker.answered(many - 1)
                self.assertEqual(len(picker.pairs()), step + 1)

    def test_the_pairs_are_a_list_of_their_own(self):
        picker = Picker(line(3), line(4))
        self.assertEqual(picker.pairs(), [])
        picker.pairs().append((0, 0))
        pick = picker.pick()
        self.assertEqual(picker.pairs(), [])
        picker.answered(0)
        told = picker.pairs()
        self.assertEqual(len(told), 1)
        told.clear()
        self.assertEqual(len(picker.pairs()), 1)
        self.assertIn(pick[1], (picker.pairs()[0][pick[0]],))

    def test_no_more_where_they_are_never_parted(self):
        for one, other in couples():
            if parted(one, other) is None:
                refused(self, NoMore, None, Picker, one, other)
        for world in made_worlds(8, (3, 4)) + [bare(1), ring(4)]:
            refused(self, NoMore, None, Picker, world, world)

    def test_worlds_refused_ahead_of_it(self):
        worlds_refused(self, Picker)


if __name__ == "__main__":
    unittest.main()
