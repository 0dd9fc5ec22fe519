"""Rounds of few letters, and sheets that part by few letters."""

import functools
import itertools
import unittest

from helper import NO_NUMBERS, all_worlds, bare, couples, line, lists_of_their_own, made_sayings, made_worlds, near
from helper import plain_added, plain_pairings, plain_parts, plain_turns, refused, ring, small_in_size, subsets
from helper import worlds_refused

from pickalike.errors import NoCount
from pickalike.few import few_parting, few_rounds
from pickalike.sayings import free_of, holds, is_plain, letters_of
from pickalike.sheets import sheet_depth, sheet_holds
from pickalike.worlds import tongue_of

LETTERS = ("x", "y", "z")
BAD_LETTERS = (0, 4, -1, 5, 10 ** 300, -(10 ** 300)) + NO_NUMBERS
WORLD = (2, (("red", ()),), (("to", ()),))


def can_be_added_to(one, other, part, known):
    """Whether each point of either world is in a pair that brings the part to one of the known, by [24]."""
    firsts, seconds = range(one[0]), range(other[0])
    return (all(any(plain_added(part, (a, b)) in known for b in seconds) for a in firsts)
            and all(any(plain_added(part, (a, b)) in known for a in firsts) for b in seconds))


@functools.lru_cache(maxsize=None)
def plain_rounds(one, other, letters):
    """The rounds, by [24]."""
    told = [plain_pairings(one, other, letters)]
    while True:
        known = set(told[-1])
        more = [
            pairing for pairing in told[-1]
            if all(can_be_added_to(one, other, part, known) for part in subsets(pairing) if len(part) < letters)
        ]
        if more == told[-1]:
            return told
        told.append(more)


def wide_couples():
    """Couples of worlds of four points, moved and near to one another, with more names."""
    made = made_worlds(10, (4,), (("aa", "bb", "cc"), ("aa", "dd", "ee")), 3)
    made += made_worlds(10, (4, 3), ((), ("dd", "ee")), 8)
    return [(one, near(one)) for one in made]


def regular_couples():
    """Couples of worlds of four points in which all points look alike: two letters don't tell much there."""
    led = [
        ((0, 1), (1, 0), (2, 3), (3, 2)),
        ((0, 1), (1, 2), (2, 3), (3, 0)),
        ((0, 1), (1, 0), (1, 2), (2, 1), (2, 3), (3, 2), (3, 0), (0, 3)),
        ((0, 1), (1, 2), (2, 0), (3, 3)),
        ((0, 0), (1, 1), (2, 2), (3, 3)),
        (),
    ]
    worlds = [(4, (), (("to", tuple(sorted(pairs))),)) for pairs in led]
    return list(itertools.product(worlds, repeat=2))


def all_couples():
    return couples()[::2] + wide_couples() + regular_couples()


class RoundsTest(unittest.TestCase):
    def test_against_a_plain_going_through(self):
        lengths = set()
        for (one, other), letters in itertools.product(all_couples(), (1, 2, 3)):
            told = few_rounds(one, other, letters)
            self.assertEqual(told, plain_rounds(one, other, letters), (one, other, letters))
            self.assertIsInstance(told, list)
            for one_round in told:
                self.assertIsInstance(one_round, list)
            lengths.add((letters, len(told)))
        self.assertLessEqual({(1, 1), (1, 2), (2, 1), (2, 2), (2, 3), (2, 4), (3, 1), (3, 2), (3, 3), (3, 4)}, lengths)

    def test_all_couples_of_one_and_two_points(self):
        for one, other in itertools.product(all_worlds(1) + all_worlds(2)[::3], all_worlds(2)[::2]):
            for letters in (1, 2, 3):
                self.assertEqual(few_rounds(one, other, letters), plain_rounds(one, other, letters))

    def test_by_hand(self):
        self.assertEqual(few_rounds(bare(1), bare(1), 1), [[(), ((0, 0),)]])
        self.assertEqual(few_rounds(bare(1), bare(2), 1), [[(), ((0, 0),), ((0, 1),)]])
        self.assertEqual(few_rounds(bare(1), bare(2), 2), [[(), ((0, 0),), ((0, 1),)], [()], []])
        self.assertEqual(few_rounds((1, (("red", ()),), ()), (1, (("red", (0,)),), ()), 3), [[()], []])

    def test_the_last_is_not_told_twice(self):
        for (one, other), letters in itertools.product(all_couples()[::3], (1, 2, 3)):
            told = few_rounds(one, other, letters)
            for ahead, behind in zip(told, told[1:]):
                self.assertLess(len(behind), len(ahead))
                self.assertLessEqual(set(behind), set(ahead))

    def test_the_lists_are_of_their_own(self):
        for one, other in couples()[::31] + [(bare(3), bare(4)), (line(3), line(4)), (bare(2), bare(2))]:
            for letters in (1, 2, 3):
                lists_of_their_own(self, lambda: few_rounds(one, other, letters), plain_rounds(one, other, letters))


class PartingTest(unittest.TestCase):
    def is_row(self, row, earlier, letters):
        """Holds that a row is in the form of [25], with no letters but the first so many."""
        self.assertIs(type(row), tuple)
        own, saying = row
        self.assertIs(type(own), tuple)
        self.assertEqual(own, LETTERS[:len(own)])
        self.assertLessEqual(set(letters_of(saying)), set(LETTERS[:letters]))
        self.assertLessEqual(set(own), set(LETTERS[:letters]))
        self.assertLessEqual(set(free_of(saying)), set(own))
        small_in_size(self, saying)
        for part, deep in plain_parts(saying):
            self.assertIs(type(part), tuple)
            if part[0] == "row":
                self.assertEqual(len(part), 3)
                self.assertIs(type(part[1]), int)
                self.assertIn(part[1], range(len(earlier)))
                self.assertIs(type(part[2]), tuple)
                self.assertEqual(len(part[2]), len(earlier[part[1]][0]))
            elif part[0] in ("and", "or"):
                self.assertNotEqual(len(part[1]), 1)
            else:
                self.assertIn(part[0], ("mark", "arrow", "same", "not", "some", "every"))

    def check(self, one, other, letters):
        rounds = plain_rounds(one, other, letters)
        sheet = few_parting(one, other, letters)
        if () in rounds[-1]:
            self.assertIsNone(sheet, (one, other, letters))
            return None
        self.assertIs(type(sheet), tuple)
        self.assertLessEqual(len(sheet), 2000)
        for at, row in enumerate(sheet):
            self.is_row(row, sheet[:at], letters)
        self.assertEqual(sheet[-1][0], ())
        depth = [() in one_round for one_round in rounds].index(False)
        self.assertEqual(sheet_depth(sheet), depth)
        self.assertIs(sheet_holds(one, sheet), True, (one, other, sheet))
        self.assertIs(sheet_holds(other, sheet), False, (one, other, sheet))
        return depth

    def test_each_couple(self):
        found = {}
        for (one, other), letters in itertools.product(all_couples(), (1, 2, 3)):
            for first, second in ((one, other), (other, one)):
                depth = self.check(first, second, letters)
                found[letters, depth] = found.get((letters, depth), 0) + 1
        self.assertEqual({key for key in found if key[0] == 1}, {(1, 1), (1, None)})
        self.assertLessEqual({(2, 1), (2, 2), (2, 3), (2, None), (3, 1), (3, 2), (3, 3), (3, None)}, set(found))

    def test_all_couples_of_one_and_two_points(self):
        for one, other in itertools.product(all_worlds(1) + all_worlds(2)[::3], all_worlds(2)[::2]):
            for letters in (1, 2, 3):
                self.check(one, other, letters)

    def test_bare_points(self):
        # So many letters tell of as many points whether they are all unlike, and no more.
        for one, other, letters in itertools.product(range(1, 5), range(1, 5), (1, 2, 3)):
            alike = one == other or min(one, other) >= letters
            self.assertIs(self.check(bare(one), bare(other), letters) is None, alike)

    def test_where_three_letters_part_what_two_do_not(self):
        self.assertIsNone(few_parting(bare(2), bare(3), 2))
        self.assertEqual(sheet_depth(few_parting(bare(2), bare(3), 3)), 3)

    def test_worlds_that_an_order_turns_are_alike(self):
        for one, other in couples():
            if plain_turns(one, other):
                for letters in (1, 2, 3):
                    self.assertIsNone(few_parting(one, other, letters))

    def test_no_rows_deeper_than_their_own(self):
        # A row within a row counted as 0, no saying of a sheet is deep.
        for one, other in all_couples()[::4]:
            for letters in (1, 2, 3):
                for own, saying in few_parting(one, other, letters) or ():
                    deep = [part for part, at in plain_parts(saying) if part[0] in ("some", "every")]
                    self.assertLessEqual(len(deep), 8)


class AgreeingTest(unittest.TestCase):
    """What holds of worlds alike by so many letters, by [27]."""

    tongue = (("red",), ("to",))

    def chosen(self):
        """Couples of worlds of the tongue, also such as have all points alike."""
        marks = (("red", ()),)
        shaped = [(one[0], marks, one[2] or (("to", ()),)) for one in
                  [bare(many) for many in range(1, 5)] + [ring(3), ring(4), line(4)]]
        shaped += [one[:1] + (marks,) + one[2:] for one, other in regular_couples()[::6]]
        made = [(one, other) for one, other in couples()[::3] if tongue_of(one) == self.tongue]
        return made + list(itertools.product(shaped, repeat=2))

    def test_sayings_of_any_depth(self):
        agreed = {1: 0, 2: 0, 3: 0}
        unlike = {1: 0, 2: 0, 3: 0}
        apart = {1: 0, 2: 0, 3: 0}
        asked = functools.lru_cache(maxsize=None)(holds)
        for letters in (1, 2, 3):
            couples_here = [(one, other, few_parting(one, other, letters) is None, plain_turns(one, other) != [])
                            for one, other in self.chosen()]
            for names in itertools.permutations("xyz", letters):
                pool = [saying for saying in made_sayings(names, self.tongue, 2500, 8, plain=True)
                        if not free_of(saying) and is_plain(saying)][-40:]
                for one, other, alike, turned in couples_here:
                    for saying in pool:
                        same = asked(one, saying) == asked(other, saying)
                        if alike:
                            self.assertTrue(same, (one, other, saying))
                            agreed[letters] += 1
                            unlike[letters] += not turned
                        else:
                            apart[letters] += not same
        self.assertGreater(min(agreed.values()), 1000)
        self.assertGreater(min(unlike.values()), 100)
        # The sayings are such that they part worlds that aren't alike.
        self.assertGreater(min(apart.values()), 100)


class RefusedTest(unittest.TestCase):
    def test_worlds_ahead_of_letters(self):
        for call, letters in itertools.product((few_rounds, few_parting), (1, 2, 3, 0, 4, None, True, "1")):
            worlds_refused(self, lambda one, other: call(one, other, letters))

    def test_letters(self):
        for call, letters in itertools.product((few_rounds, few_parting), BAD_LETTERS):
            refused(self, NoCount, ("told", letters), call, WORLD, WORLD, letters)
            refused(self, NoCount, ("told", letters), call, bare(3), bare(4), letters)

    def test_what_is_not_refused(self):
        for letters in (1, 2, 3):
            self.assertEqual(len(few_rounds(bare(4), bare(4), letters)), 1)
            self.assertIsNone(few_parting(bare(4), bare(4), letters))


if __name__ == "__main__":
    unittest.main()
