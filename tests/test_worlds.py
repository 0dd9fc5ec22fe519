"""Names, worlds, tongues, worlds moved and laid side by side."""

import itertools
import unittest

from pickalike.errors import NoName, NoTongue, TooMany
from pickalike.worlds import bears, beside, is_name, is_world, leads, moved, tongue_of

WORDS = ("and", "or", "not", "some", "every", "least", "true", "false")
# Things that stand rightly in no place of a world.
NOWHERE = (
    None, True, False, -1, 10 ** 500, 1.0, float("nan"), "", "a", "3", b"red", bytearray(b"red"),
    [], [1], {}, {"red": 1}, set(), frozenset(), object(), int, len, range(3), Ellipsis,
)
THINGS = NOWHERE + (0, 1, 3, (), (1,), (1, ()))
WORLD = (3, (("red", (0, 2)),), (("likes", ((0, 1), (1, 1))),))
FULL = (
    4,
    (("aa", ()), ("ab", (0, 1, 2, 3)), ("zz", (3,))),
    (("aa", ((0, 0), (0, 3), (3, 0), (3, 3))), ("ba", ()), ("zz", ((2, 1),))),
)


class Hostile:
    """A thing that can't be compared."""

    def __eq__(self, other):
        raise RuntimeError("compared")

    def __lt__(self, other):
        raise RuntimeError("compared")

    __hash__ = None


def small_worlds():
    """Worlds of one to three points of one mark and one arrow: all of the first sizes, some of the third."""
    for many in (1, 2):
        pairs = list(itertools.product(range(many), repeat=2))
        for some in subsets(range(many)):
            for led in subsets(pairs):
                yield (many, (("red", some),), (("to", led),))
    pairs = list(itertools.product(range(3), repeat=2))
    for at, led in enumerate(subsets(pairs)):
        yield (3, (("red", subsets(range(3))[at % 8]),), (("to", led),))


def subsets(things):
    return [some for k in range(len(things) + 1) for some in itertools.combinations(things, k)]


class NameTest(unittest.TestCase):
    def test_lengths(self):
        for length in range(12):
            self.assertIs(is_name("x" * length), 2 <= length <= 8, length)

    def test_good_names(self):
        for name in ("ab", "aa", "red", "likes", "abcdefgh", "ijklmnop", "qr", "stuvwxyz", "mark", "arrow", "same"):
            self.assertIs(is_name(name), True, name)

    def test_words_are_none(self):
        for word in WORDS:
            self.assertIs(is_name(word), False, word)

    def test_names_that_only_begin_or_end_with_a_word(self):
        for word in WORDS:
            for name in (word + "s", word + "zz", "x" + word, word[:-1] + "q"):
                self.assertIs(is_name(name), True, name)
        for name in ("oro", "notnot", "an", "tru", "fals", "leas"):
            self.assertIs(is_name(name), True, name)

    def test_other_signs(self):
        for sign in "`{@[AZ09_- .:>;=()\n\t\0\x7f\u00e4\u00df\u0430\uff41\u0131\u00aa":
            for name in (sign + "ed", "r" + sign + "d", "re" + sign):
                self.assertIs(is_name(name), False, repr(name))

    def test_things_of_any_kind(self):
        for thing in THINGS + (Hostile(), ("r", "e", "d"), ["a", "b"], 12, "Red", "RED"):
            self.assertIs(is_name(thing), False, repr(thing))


class WorldTest(unittest.TestCase):
    def good(self, *worlds):
        for world in worlds:
            self.assertIs(is_world(world), True, repr(world))

    def bad(self, *things):
        for thing in things:
            self.assertIs(is_world(thing), False, repr(thing))

    def test_good_worlds(self):
        self.good(WORLD, FULL, *small_worlds())

    def test_numbers_of_points(self):
        for many in range(-1, 12):
            self.assertIs(is_world((many, (), ())), 1 <= many <= 8, many)

    def test_number_of_another_kind(self):
        for many in (True, False, None, 3.0, "3", (3,), [3], b"3", Hostile()):
            self.bad((many, (), ()))

    def test_things_of_any_kind(self):
        self.bad(*THINGS)
        self.bad(Hostile(), (Hostile(), Hostile(), Hostile()))
        for thing in NOWHERE + (Hostile(),):
            self.bad((thing, (), ()), (3, thing, ()), (3, (), thing))
            self.bad((3, (thing,), ()), (3, (), (thing,)))
            self.bad((3, ((thing, ()),), ()), (3, (), ((thing, ()),)))
            self.bad((3, (("red", thing),), ()), (3, (), (("to", thing),)))
            self.bad((3, (("red", (thing,)),), ()), (3, (), (("to", (thing,)),)))
            self.bad((3, (("red", (0, thing)),), ()), (3, (), (("to", ((0, 0), thing)),)))
            self.bad((3, (), (("to", ((0, thing),)),)), (3, (), (("to", ((thing, 0),)),)))

    def test_lengths_of_the_tuple(self):
        self.bad((), (3,), (3, ()), (3, (), (), ()), (3, (), (), None), WORLD + WORLD)

    def test_lists_in_the_place_of_tuples(self):
        self.bad(
            [3, (), ()],
            (3, [], ()),
            (3, (), []),
            (3, (["red", ()],), ()),
            (3, (("red", []),), ()),
            (3, (("red", [0, 1]),), ()),
            (3, (), (["to", ()],)),
            (3, (), (("to", []),)),
            (3, (), (("to", ([0, 1],)),)),
            (3, (), (("to", [(0, 1)]),)),
            (3, [("red", ())], ()),
            (3, (), [("to", ())]),
            (3, {}, ()),
            (3, {"red": (0,)}, ()),
            (3, (("red", range(2)),), ()),
            (3, (("red", {0, 1}),), ()),
        )

    def test_three_marks_and_arrows_but_not_four(self):
        names = ("ab", "bc", "cd", "de")
        for many in range(5):
            rows = tuple((name, ()) for name in names[:many])
            self.assertIs(is_world((2, rows, ())), many <= 3, many)
            self.assertIs(is_world((2, (), rows)), many <= 3, many)

    def test_names_rise(self):
        for one, other in (("bb", "aa"), ("aa", "aa"), ("ab", "aa"), ("aab", "aa"), ("b" * 2, "azzz")):
            rows = ((one, ()), (other, ()))
            self.bad((2, rows, ()), (2, (), rows))
        self.bad((2, (("aa", ()), ("cc", ()), ("bb", ())), ()), (2, (), (("aa", ()), ("cc", ()), ("cc", ()))))
        self.good((2, (("aa", ()), ("aab", ()), ("ab", ())), ()), (2, (), (("azzz", ()), ("bb", ()))))

    def test_names_are_names(self):
        for name in ("", "r", "Red", "ninesigns", "a b", "red1", b"red", None, 5) + WORDS:
            self.bad((2, ((name, ()),), ()), (2, (), ((name, ()),)))

    def test_a_mark_and_an_arrow_of_one_name(self):
        self.good((2, (("red", (0,)),), (("red", ((0, 1),)),)))

    def test_lengths_of_rows(self):
        self.bad(
            (2, (("red",),), ()),
            (2, (("red", (), ()),), ()),
            (2, ((),), ()),
            (2, (), (("to",),)),
            (2, (), (("to", (), ()),)),
            (2, (), ((),)),
            (2, "red", ()),
            (2, ("red",), ()),
            (2, ("ab",), ()),
            (2, (), ("ab",)),
        )

    def test_points_that_are_none(self):
        for points in (
            (2,), (0, 2), (-1,), (-1, 0), (0, 1, 2), (True,), (False,), (0, True), (1.0,), ("0",), (None,), ((0,),),
        ):
            self.bad((2, (("red", points),), ()))
        self.good((2, (("red", (0, 1)),), ()))
        self.good((8, (("red", (0, 7)),), ()))
        self.bad((8, (("red", (0, 8)),), ()))

    def test_points_rise(self):
        self.bad((3, (("red", (1, 0)),), ()), (3, (("red", (1, 1)),), ()), (3, (("red", (0, 2, 1)),), ()))

    def test_wrong_in_a_later_row(self):
        self.bad(
            (3, (("aa", ()), ("bb", (3,))), ()),
            (3, (("aa", ()), ("bb", ()), ("cc", (1, 1))), ()),
            (3, (), (("aa", ()), ("bb", ((0, 3),)))),
            (3, (), (("aa", ()), ("bb", ()), ("cc", ((1, 1), (1, 0))))),
        )

    def test_pairs_that_are_none(self):
        for pair in (
            (0, 2), (2, 0), (-1, 0), (0, -1), (0,), (0, 1, 1), (), (True, 0), (0, True), (False, 0), (0, False),
            (0, 1.0), (1.0, 0), ("0", "1"), "01", 0, None, [0, 1], (0, None),
        ):
            self.bad((2, (), (("to", (pair,)),)))
        self.good((2, (), (("to", ((0, 0), (0, 1), (1, 0), (1, 1))),)))
        self.good((8, (), (("to", ((7, 7),)),)))
        self.bad((8, (), (("to", ((7, 8),)),)))

    def test_pairs_rise(self):
        self.bad(
            (3, (), (("to", ((1, 0), (0, 1))),)),
            (3, (), (("to", ((0, 1), (0, 1))),)),
            (3, (), (("to", ((0, 2), (0, 1))),)),
            (3, (), (("to", ((0, 0), (2, 1), (2, 0))),)),
        )


class TongueTest(unittest.TestCase):
    def test_tongues(self):
        self.assertEqual(tongue_of(WORLD), (("red",), ("likes",)))
        self.assertEqual(tongue_of(FULL), (("aa", "ab", "zz"), ("aa", "ba", "zz")))
        self.assertEqual(tongue_of((1, (), ())), ((), ()))
        self.assertEqual(tongue_of((1, (("red", ()),), ())), (("red",), ()))
        self.assertEqual(tongue_of((1, (), (("red", ()),))), ((), ("red",)))

    def test_kinds(self):
        tongue = tongue_of(WORLD)
        self.assertIsInstance(tongue, tuple)
        for names in tongue:
            self.assertIsInstance(names, tuple)

    def test_bears_each_mark_and_point(self):
        for world in [WORLD, FULL] + list(small_worlds())[:40]:
            for name, points in world[1]:
                for point in range(world[0]):
                    self.assertIs(bears(world, name, point), point in points)

    def test_leads_each_arrow_and_pair(self):
        for world in [WORLD, FULL] + list(small_worlds()):
            for name, pairs in world[2]:
                for one, other in itertools.product(range(world[0]), repeat=2):
                    self.assertIs(leads(world, name, one, other), (one, other) in pairs)

    def test_bears_has_no_name(self):
        for name in ("likes", "blue", "re", "redd", "", "and", "Red", None, 5, ["red"], ("red", (0, 2))):
            with self.assertRaises(NoName) as caught:
                bears(WORLD, name, 0)
            self.assertIs(caught.exception.name, name)

    def test_leads_has_no_name(self):
        for name in ("red", "blue", "like", "likess", "", "and", "Likes", None, 5, ["likes"]):
            with self.assertRaises(NoName) as caught:
                leads(WORLD, name, 0, 1)
            self.assertIs(caught.exception.name, name)

    def test_one_name_of_both(self):
        world = (2, (("red", (0,)),), (("red", ((1, 1),)),))
        self.assertIs(bears(world, "red", 0), True)
        self.assertIs(bears(world, "red", 1), False)
        self.assertIs(leads(world, "red", 1, 1), True)
        self.assertIs(leads(world, "red", 0, 0), False)


class MovedTest(unittest.TestCase):
    def test_example(self):
        self.assertEqual(
            moved(WORLD, (1, 2, 0)), (3, (("red", (0, 1)),), (("likes", ((1, 2), (2, 2))),))
        )

    def test_every_order_takes_marks_and_arrows_along(self):
        for world in [FULL] + list(small_worlds()):
            for order in itertools.permutations(range(world[0])):
                told = moved(world, order)
                self.assertIs(is_world(told), True, repr(told))
                self.assertEqual(told[0], world[0])
                self.assertEqual(tongue_of(told), tongue_of(world))
                for name, points in world[1]:
                    for point in range(world[0]):
                        self.assertEqual(bears(told, name, order[point]), point in points)
                for name, pairs in world[2]:
                    for a, b in itertools.product(range(world[0]), repeat=2):
                        self.assertEqual(leads(told, name, order[a], order[b]), (a, b) in pairs)

    def test_the_order_of_all_at_its_own_place_changes_nothing(self):
        self.assertEqual(moved(FULL, (0, 1, 2, 3)), FULL)


class BesideTest(unittest.TestCase):
    def test_example(self):
        one = (2, (("red", (1,)),), (("to", ((0, 1), (1, 1))),))
        other = (3, (("red", (0, 2)),), (("to", ((2, 0),)),))
        self.assertEqual(beside(one, other), (5, (("red", (1, 2, 4)),), (("to", ((0, 1), (1, 1), (4, 2))),)))
        self.assertEqual(beside(other, one), (5, (("red", (0, 2, 4)),), (("to", ((2, 0), (3, 4), (4, 4))),)))

    def test_all_of_both_and_nothing_across(self):
        worlds = list(small_worlds())[:60:3] + list(small_worlds())[80::37]
        for one, other in itertools.product(worlds, repeat=2):
            told = beside(one, other)
            first = one[0]
            self.assertIs(is_world(told), True, repr(told))
            self.assertEqual(told[0], first + other[0])
            for point in range(told[0]):
                there = bears(one, "red", point) if point < first else bears(other, "red", point - first)
                self.assertEqual(bears(told, "red", point), there)
            for a, b in itertools.product(range(told[0]), repeat=2):
                if a < first and b < first:
                    self.assertEqual(leads(told, "to", a, b), leads(one, "to", a, b))
                elif a >= first and b >= first:
                    self.assertEqual(leads(told, "to", a, b), leads(other, "to", a - first, b - first))
                else:
                    self.assertIs(leads(told, "to", a, b), False)

    def test_three_names(self):
        told = beside(FULL, FULL)
        self.assertEqual(told[0], 8)
        self.assertIs(is_world(told), True)
        self.assertEqual(tongue_of(told), tongue_of(FULL))
        self.assertEqual(told[1], (("aa", ()), ("ab", (0, 1, 2, 3, 4, 5, 6, 7)), ("zz", (3, 7))))

    def test_too_many(self):
        for one, other in itertools.product(range(1, 9), repeat=2):
            if one + other <= 8:
                self.assertEqual(beside((one, (), ()), (other, (), ())), (one + other, (), ()))
                continue
            with self.assertRaises(TooMany) as caught:
                beside((one, (), ()), (other, (), ()))
            self.assertEqual(caught.exception.many, one + other)

    def test_no_tongue(self):
        bare = (1, (), ())
        red = (1, (("red", ()),), ())
        blue = (1, (("blue", ()),), ())
        to = (1, (), (("red", ()),))
        both = (1, (("blue", ()), ("red", ())), ())
        for one, other in itertools.permutations((bare, red, blue, to, both), 2):
            with self.assertRaises(NoTongue):
                beside(one, other)

    def test_no_tongue_is_ahead_of_too_many(self):
        with self.assertRaises(NoTongue):
            beside((8, (), ()), (8, (("red", ()),), ()))
        with self.assertRaises(NoTongue):
            beside((5, (), (("to", ()),)), (5, (), (("too", ()),)))


class HandedInTest(unittest.TestCase):
    def test_an_order_is_neither_changed_nor_kept(self):
        order = [1, 2, 0]
        told = moved(WORLD, order)
        self.assertEqual(order, [1, 2, 0])
        order[0] = 0
        self.assertEqual(told, moved(WORLD, (1, 2, 0)))

    def test_all_that_is_told_is_of_tuples(self):
        for told in (moved(FULL, (3, 2, 1, 0)), beside(WORLD, WORLD)):
            self.assertIsInstance(told, tuple)
            for rows in told[1:]:
                self.assertIsInstance(rows, tuple)
                for row in rows:
                    self.assertIsInstance(row, tuple)
                    self.assertIsInstance(row[1], tuple)


if __name__ == "__main__":
    unittest.main()
