"""Pairs that fit, and all pairings of two worlds."""

import itertools
import unittest

from helper import NO_NUMBERS, OTHER_TONGUES, all_worlds, bare, couples, made_worlds, numbers, plain_fits, plain_moved
from helper import plain_pairings, refused, subsets

from pickalike.errors import NoCount, NoTongue, TooMany
from pickalike.pairings import fits, pairings

WIDE = (("aa", "bb", "cc"), ("aa", "dd", "ee"))


def turned_about(pairs):
    return tuple((b, a) for a, b in pairs)


class FitsTest(unittest.TestCase):
    def check(self, one, other, pairs, truth):
        for told in (pairs, pairs[::-1], pairs + pairs):
            self.assertIs(fits(one, other, told), truth, (one, other, told))
            self.assertIs(fits(other, one, turned_about(told)), truth, (other, one, told))

    def test_no_pairs_and_none(self):
        for one, other in couples()[::5] + list(itertools.product(made_worlds(9, (5, 6, 7, 8)), repeat=2)):
            self.assertIs(fits(one, other, ()), True)
            self.assertIs(fits(one, other, None), True)

    def test_a_pair_with_itself_by_marks(self):
        one = (3, (("aa", (0,)), ("bb", (1,)), ("cc", (2,))), ())
        for a, b in itertools.product(range(3), repeat=2):
            self.check(one, one, ((a, b),), a == b)
        other = (2, (("aa", (0,)), ("bb", (0, 1)), ("cc", ())), ())
        for a, b in itertools.product(range(3), range(2)):
            self.check(one, other, ((a, b),), (a, b) == (1, 1))

    def test_a_pair_with_itself_by_arrows_from_a_point_to_itself(self):
        one = (3, (), (("aa", ((0, 0),)), ("bb", ((1, 1),)), ("cc", ((2, 2),))))
        for a, b in itertools.product(range(3), repeat=2):
            self.check(one, one, ((a, b),), a == b)
        # Arrows to other points don't count for one pair.
        one = (2, (), (("to", ((0, 1), (1, 0))),))
        for a, b in itertools.product(range(2), repeat=2):
            self.check(one, (2, (), (("to", ()),)), ((a, b),), True)

    def test_one_point_and_two(self):
        for many in range(2, 9):
            self.check(bare(many), bare(many), ((0, 0), (0, 1)), False)
            self.check(bare(many), bare(many), ((0, 0), (1, 0)), False)
            self.check(bare(many), bare(many), ((0, many - 1), (many - 1, many - 1)), False)
            self.check(bare(many), bare(many), ((0, 1), (1, 0)), True)
            self.check(bare(many), bare(many), tuple((k, many - 1 - k) for k in range(many)), True)
            self.check(bare(many), bare(1), ((0, 0), (1, 0)), False)
            self.check(bare(many), bare(1), ((many - 1, 0),), True)

    def test_arrows_either_way(self):
        # Which arrows lead between two points of one world, and which in the other: alike or not.
        ways = subsets([(0, 0), (0, 1), (1, 0), (1, 1)])
        for place in range(3):
            for led, there in itertools.product(ways, repeat=2):
                rows = [("aa", ()), ("bb", ()), ("cc", ())]
                one, other = list(rows), list(rows)
                one[place] = (rows[place][0], led)
                other[place] = (rows[place][0], there)
                one, other = (2, (), tuple(one)), (2, (), tuple(other))
                self.check(one, other, ((0, 0), (1, 1)), led == there)
                turned = tuple(sorted((1 - a, 1 - b) for a, b in there))
                self.check(one, other, ((0, 1), (1, 0)), led == turned)

    def test_a_mark_and_an_arrow_of_one_name(self):
        one = (2, (("aa", (0,)),), (("aa", ((0, 0),)),))
        self.check(one, (2, (("aa", (0,)),), (("aa", ((1, 1),)),)), ((0, 0),), False)
        self.check(one, (2, (("aa", (1,)),), (("aa", ((0, 0),)),)), ((0, 0),), False)
        self.check(one, (2, (("aa", (1,)),), (("aa", ((1, 1),)),)), ((0, 1), (1, 0)), True)

    def test_a_pair_far_behind(self):
        # Each of eight pairs counts, and each two of them, whichever way.
        pairs = tuple((k, k) for k in range(8))
        one = (8, (("red", ()),), (("to", ()),))
        for a, b in itertools.product(range(8), repeat=2):
            other = (8, (("red", ()),), (("to", ((a, b),)),))
            self.check(one, other, pairs, False)
            self.check(one, other, tuple(pair for pair in pairs if pair[0] != a), True)
        for a in range(8):
            other = (8, (("red", (a,)),), (("to", ()),))
            self.check(one, other, pairs, False)
            self.check(one, other, tuple(pair for pair in pairs if pair[0] != a), True)

    def test_worlds_moved(self):
        for at, world in enumerate(made_worlds(40, (1, 2, 3, 4, 5, 6, 7, 8), WIDE)):
            order = list(itertools.islice(itertools.permutations(range(world[0])), at * 7 % 60 + 1))[-1]
            pairs = tuple(enumerate(order))
            for some in subsets(pairs, 2) + [pairs, pairs[1:]]:
                self.check(world, plain_moved(world, order), some, True)

    def test_as_the_document_says_word_by_word(self):
        source = numbers(3)
        told = {True: 0, False: 0}
        worlds = made_worlds(30, (8, 5, 6, 4, 7, 3), seed=11)
        for one, other in list(zip(worlds, worlds[1:])) + list(zip(worlds, worlds)) + couples()[::4]:
            for many in (1, 2, 2, 2, 3, 3, 4, 6):
                pairs = tuple((next(source) % one[0], next(source) % other[0]) for k in range(many))
                truth = plain_fits(one, other, pairs)
                self.check(one, other, pairs, truth)
                told[truth] += 1
        self.assertGreater(min(told.values()), 150)

    def test_all_pairs_of_two_points(self):
        for one, other in itertools.product(all_worlds(2)[::7], all_worlds(2)[::3]):
            for pairs in subsets(itertools.product(range(2), repeat=2)):
                self.check(one, other, pairs, plain_fits(one, other, pairs))

    def test_many_pairs(self):
        world = bare(8)
        every = tuple(itertools.product(range(8), repeat=2))
        self.check(world, world, every, False)
        self.check(world, world, every * 15, False)
        self.check(world, world, tuple((k, 7 - k) for k in range(8)) * 125, True)

    def test_refused(self):
        world = (2, (("red", ()),), (("to", ()),))
        for other in OTHER_TONGUES:
            for pairs in ((), None, ((0, 0),), ((0, 0), (0, 1))):
                refused(self, NoTongue, None, fits, world, other, pairs)
                refused(self, NoTongue, None, fits, other, world, pairs)
                self.assertIn(fits(other, other, pairs), (True, False))


class PairingsTest(unittest.TestCase):
    def test_against_all_sets_of_pairs(self):
        for one, other in couples():
            for most in range(5):
                told = pairings(one, other, most)
                self.assertIsInstance(told, list)
                self.assertEqual(told, plain_pairings(one, other, most), (one, other, most))

    def test_order_and_form(self):
        for one, other in couples()[::3]:
            told = pairings(one, other, 4)
            self.assertEqual(told, sorted(told, key=lambda pairing: (len(pairing), pairing)))
            self.assertEqual(len(told), len(set(told)))
            self.assertEqual(told[0], ())
            for pairing in told:
                self.assertIsInstance(pairing, tuple)
                self.assertEqual(list(pairing), sorted(set(pairing)))
                self.assertIs(fits(one, other, pairing), True)

    def test_bare_worlds(self):
        # Among bare points a pairing is a choice of as many points on either side, and an order of them.
        self.assertEqual([len(pairings(bare(4), bare(4), most)) for most in range(5)], [1, 17, 89, 185, 209])
        self.assertEqual([len(pairings(bare(4), bare(2), most)) for most in range(5)], [1, 9, 21, 21, 21])
        self.assertEqual(pairings(bare(1), bare(1), 4), [(), ((0, 0),)])
        self.assertEqual(pairings(bare(1), bare(2), 1), [(), ((0, 0),), ((0, 1),)])
        self.assertEqual(
            pairings(bare(2), bare(2), 3),
            [(), ((0, 0),), ((0, 1),), ((1, 0),), ((1, 1),), ((0, 0), (1, 1)), ((0, 1), (1, 0))],
        )

    def test_turned_about(self):
        for one, other in couples()[::3]:
            for most in (1, 2, 4):
                told = [tuple(sorted(turned_about(pairing))) for pairing in pairings(one, other, most)]
                self.assertEqual(sorted(told), sorted(pairings(other, one, most)))

    def test_a_change_of_the_list_changes_nothing_told_later(self):
        for one, other in couples()[::20]:
            told = pairings(one, other, 4)
            kept = list(told)
            told.append("more")
            told[0] = None
            self.assertEqual(pairings(one, other, 4), kept)
            pairings(one, other, 0).clear()
            pairings(one, other, 1).clear()
            self.assertEqual(pairings(one, other, 0), [()])
            self.assertEqual(pairings(one, other, 4), kept)

    def test_no_count(self):
        for one, other in ((bare(1), bare(4)), (bare(4), bare(4)), (bare(3), bare(2))):
            for most in (-1, 5, -5, 6, 10 ** 300, -(10 ** 300)) + NO_NUMBERS:
                refused(self, NoCount, ("told", most), pairings, one, other, most)

    def test_too_many(self):
        for most in (0, 4, -1, 5, None, True, "2"):
            for many in (5, 6, 7, 8):
                refused(self, TooMany, ("many", many), pairings, bare(many), bare(4), most)
                refused(self, TooMany, ("many", many), pairings, bare(1), bare(many), most)
                refused(self, TooMany, ("many", many), pairings, bare(many), bare(13 - many), most)

    def test_no_tongue(self):
        for world in all_worlds(1) + [(7, (("red", ()),), (("to", ()),))]:
            for other in OTHER_TONGUES + tuple((6,) + other[1:] for other in OTHER_TONGUES):
                for most in (0, 4, -1, 5, None, True):
                    refused(self, NoTongue, None, pairings, world, other, most)
                    refused(self, NoTongue, None, pairings, other, world, most)


if __name__ == "__main__":
    unittest.main()
