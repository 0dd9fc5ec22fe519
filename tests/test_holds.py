"""Whether sayings hold of worlds, and what is refused when it is asked."""

import itertools
import unittest

from helper import FALSE, TRUE, made_sayings, plain_holds

from pickalike.errors import NoLetter, NoName
from pickalike.sayings import depth_of, free_of, holds, is_saying

WORLD = (3, (("blue", ()), ("red", (0, 2))), (("likes", ((0, 1), (1, 1), (1, 2))), ("none", ())))
MARK = ("mark", "red", "x")
LETTERS = "xyz"


class HoldsTest(unittest.TestCase):
    def check(self, saying, truth, places=None, world=WORLD):
        self.assertIs(is_saying(saying), True, repr(saying))
        self.assertIs(holds(world, saying, places), truth, repr(saying))
        self.assertIs(holds(world, ("not", saying), places), not truth, repr(saying))

    def test_mark(self):
        for point in range(3):
            self.check(MARK, point in (0, 2), {"x": point})
            self.check(("mark", "blue", "x"), False, {"x": point})

    def test_arrow(self):
        for one, other in itertools.product(range(3), repeat=2):
            places = {"x": one, "y": other}
            self.check(("arrow", "likes", "x", "y"), (one, other) in WORLD[2][0][1], places)
            self.check(("arrow", "likes", "y", "x"), (other, one) in WORLD[2][0][1], places)
            self.check(("arrow", "likes", "x", "x"), one == 1, places)
            self.check(("arrow", "none", "x", "y"), False, places)

    def test_same(self):
        for one, other in itertools.product(range(3), repeat=2):
            self.check(("same", "x", "y"), one == other, {"x": one, "y": other})
            self.check(("same", "x", "x"), True, {"x": one})

    def test_one_name_of_a_mark_and_an_arrow(self):
        world = (2, (("red", (0,)),), (("red", ((0, 1),)),))
        self.check(MARK, True, {"x": 0}, world)
        self.check(("arrow", "red", "x", "y"), True, {"x": 0, "y": 1}, world)
        self.check(("arrow", "red", "x", "y"), False, {"x": 1, "y": 0}, world)

    def test_and_or_without_parts(self):
        self.check(TRUE, True)
        self.check(FALSE, False)
        self.check(("some", "x", TRUE), True)
        self.check(("every", "x", FALSE), False)

    def test_and_or(self):
        for truths in itertools.product((True, False), repeat=3):
            parts = tuple(TRUE if truth else FALSE for truth in truths)
            self.check(("and", parts), all(truths))
            self.check(("or", parts), any(truths))
            self.check(("and", parts[:2]), all(truths[:2]))
            self.check(("or", parts[:2]), any(truths[:2]))

    def test_some_every(self):
        for many in range(1, 9):
            for bearing in range(many + 1):
                for points in (tuple(range(bearing)), tuple(range(many - bearing, many))):
                    world = (many, (("red", points),), ())
                    self.check(("some", "x", MARK), bearing > 0, None, world)
                    self.check(("every", "x", MARK), bearing == many, None, world)

    def test_least(self):
        for many in range(1, 9):
            for bearing in range(many + 1):
                for points in (tuple(range(bearing)), tuple(range(many - bearing, many))):
                    world = (many, (("red", points),), ())
                    for wanted in range(1, 10):
                        self.check(("least", wanted, "x", MARK), bearing >= wanted, None, world)
                        self.check(("least", wanted, "x", TRUE), many >= wanted, None, world)

    def test_nested(self):
        likes = ("arrow", "likes", "x", "y")
        self.check(("some", "x", ("every", "y", likes)), False)
        self.check(("every", "x", ("some", "y", likes)), False)
        self.check(("every", "y", ("some", "x", likes)), False)
        self.check(("some", "x", ("least", 2, "y", likes)), True)
        self.check(("some", "x", ("least", 3, "y", likes)), False)
        self.check(("least", 2, "x", ("some", "y", likes)), True)
        self.check(("least", 3, "x", ("some", "y", likes)), False)
        self.check(("some", "y", likes), False, {"x": 2})
        self.check(("some", "y", likes), True, {"x": 1})

    def test_a_letter_bound_anew_within(self):
        self.check(("some", "x", MARK), True, {"x": 1})
        self.check(("every", "x", MARK), False, {"x": 0})
        # Behind the inner one, the letter stands again where it stood ahead of it.
        inner = ("some", "x", ("not", MARK))
        self.check(("and", (inner, MARK)), True, {"x": 0})
        self.check(("and", (MARK, inner, MARK)), True, {"x": 0})
        self.check(("and", (inner, MARK)), False, {"x": 1})
        self.check(("every", "x", ("some", "x", MARK)), True)
        self.check(("some", "x", ("every", "x", MARK)), False)
        self.check(("some", "x", ("and", (("every", "x", ("or", (MARK, ("not", MARK)))), ("not", MARK)))), True)
        self.check(("least", 2, "x", ("and", (("least", 1, "x", ("not", MARK)), MARK))), True)
        self.check(("least", 3, "x", ("and", (("least", 1, "x", ("not", MARK)), MARK))), False)

    def test_places_none_and_left_out(self):
        self.assertIs(holds(WORLD, ("some", "x", MARK)), True)
        self.assertIs(holds(WORLD, ("some", "x", MARK), None), True)
        self.assertIs(holds(WORLD, ("some", "x", MARK), {}), True)

    def test_places_with_more_letters_than_needed(self):
        places = {"a": 2, "x": 1, "y": 0, "z": 0}
        self.check(MARK, False, places)
        self.check(("arrow", "likes", "y", "x"), True, places)
        self.check(("some", "x", MARK), True, places)
        self.check(("every", "b", ("same", "x", "x")), True, places)
        self.check(TRUE, True, places)

    def test_places_are_unchanged(self):
        saying = ("and", (("some", "x", MARK), ("every", "y", ("least", 2, "z", ("not", ("same", "x", "z"))))))
        places = {"y": 2, "x": 0}
        self.assertIs(holds(WORLD, saying, places), True)
        self.assertEqual(list(places.items()), [("y", 2), ("x", 0)])
        places = {"x": 1}
        for binder in (("some", "x"), ("every", "x"), ("least", 3, "x"), ("some", "y")):
            holds(WORLD, binder + (MARK,), places)
            self.assertEqual(places, {"x": 1})

    def test_places_are_not_kept(self):
        places = {"x": 0}
        self.assertIs(holds(WORLD, MARK, places), True)
        places["x"] = 1
        self.assertIs(holds(WORLD, MARK, places), False)
        self.assertIs(holds(WORLD, ("some", "y", ("arrow", "likes", "x", "y")), places), True)
        places["x"] = 2
        self.assertIs(holds(WORLD, ("some", "y", ("arrow", "likes", "x", "y")), places), False)
        del places["x"]
        with self.assertRaises(NoLetter):
            holds(WORLD, MARK, places)

    def test_as_the_document_says_word_by_word(self):
        worlds = (
            WORLD,
            (1, (("blue", (0,)), ("red", ())), (("likes", ((0, 0),)), ("none", ()))),
            (2, (("blue", (1,)), ("red", (0, 1))), (("likes", ((0, 1),)), ("none", ((0, 0), (1, 0))))),
            (4, (("blue", (1, 3)), ("red", (0, 1))), (("likes", ((0, 1), (1, 2), (2, 3))), ("none", ((2, 2), (3, 0))))),
        )
        told = {True: 0, False: 0}
        for at, saying in enumerate(made_sayings(LETTERS, (("blue", "red"), ("likes", "none")))):
            world = worlds[at % 4]
            places = {letter: (at // (k + 1)) % world[0] for k, letter in enumerate(LETTERS)}
            truth = plain_holds(world, saying, places)
            self.assertIs(holds(world, saying, places), truth, repr(saying))
            told[truth] += 1
            few = {letter: places[letter] for letter in free_of(saying)}
            self.assertIs(holds(world, saying, few), truth, repr(saying))
        self.assertGreater(min(told.values()), 300)

    def test_many_free_letters(self):
        letters = "abcdef"
        differ = ("and", tuple(("not", ("same", x, y)) for x, y in itertools.combinations(letters, 2)))
        saying = differ
        for letter in letters[::-1]:
            saying = ("some", letter, saying)
        for many in range(4, 9):
            self.check(saying, many >= 6, None, (many, (), ()))

    def test_deepest_on_the_most_points(self):
        # The letters a to h in a chain: were each part reckoned anew for all points round it, it would take too long.
        points = tuple(range(8))
        pairs = tuple(itertools.product(range(8), repeat=2))
        world = (8, (("red", points),), (("to", pairs),))
        chain = TRUE
        marks = TRUE
        again = MARK
        for letter, ahead in zip("hgfedcb", "gfedcba"):
            chain = ("every", letter, ("and", (("arrow", "to", ahead, letter), chain)))
            marks = ("every", letter, ("and", (("mark", "red", letter), marks)))
            again = ("every", "x", again)
        for saying in (("every", "a", chain), ("every", "a", marks), ("every", "x", again)):
            self.assertEqual(depth_of(saying), 8)
            self.check(saying, True, None, world)
            self.check(saying, False, None, (8, (("red", points[:7]),), (("to", pairs[:-1]),)))

    def test_forty_within_one_another(self):
        saying = ("mark", "red", "x")
        for at in range(38):
            saying = (("not", saying), ("and", (TRUE, saying)), ("or", (saying, FALSE)))[at % 3]
        self.check(saying, False, {"x": 0})
        self.check(saying, True, {"x": 1})


class NoNameTest(unittest.TestCase):
    def refused(self, saying, name, places=None):
        with self.assertRaises(NoName, msg=repr(saying)) as caught:
            holds(WORLD, saying, places)
        self.assertEqual(caught.exception.name, name)

    def test_mark_and_arrow_as_they_are_used(self):
        places = {"x": 0, "y": 0}
        self.refused(("mark", "green", "x"), "green", places)
        self.refused(("mark", "likes", "x"), "likes", places)
        self.refused(("arrow", "green", "x", "y"), "green", places)
        self.refused(("arrow", "red", "x", "y"), "red", places)
        self.refused(("mark", "re", "x"), "re", places)

    def test_within_each_kind(self):
        bad = ("mark", "green", "x")
        for saying in (
            ("not", bad), ("and", (bad, MARK)), ("and", (MARK, bad)), ("or", (bad, MARK)), ("or", (MARK, bad)),
            ("some", "x", bad), ("every", "x", bad), ("least", 1, "x", bad),
            ("not", ("some", "x", ("or", (MARK, bad)))),
        ):
            self.refused(saying, "green", {"x": 0})

    def test_the_first_from_the_left(self):
        aa = ("mark", "aa", "x")
        bb = ("arrow", "bb", "x", "y")
        cc = ("mark", "cc", "z")
        places = {"x": 0, "y": 0, "z": 0}
        self.refused(("and", (bb, aa)), "bb", places)
        self.refused(("and", (aa, bb)), "aa", places)
        self.refused(("or", (MARK, cc, bb, aa)), "cc", places)
        self.refused(("and", (("some", "x", ("or", (MARK, cc))), bb, aa)), "cc", places)
        self.refused(("and", (("some", "x", ("every", "y", ("not", ("not", bb)))), aa)), "bb", places)
        self.refused(("or", (bb, ("some", "x", aa), cc)), "bb", places)
        self.refused(("and", (("and", (MARK, MARK)), ("and", (MARK, cc)), ("and", (aa, bb)))), "cc", places)

    def test_where_its_truth_is_not_needed(self):
        bad = ("mark", "green", "x")
        places = {"x": 0}
        self.refused(("and", (FALSE, bad)), "green", places)
        self.refused(("or", (TRUE, bad)), "green", places)
        self.refused(("least", 9, "x", bad), "green", places)
        self.refused(("some", "x", ("or", (("same", "x", "x"), bad))), "green", places)
        self.refused(("every", "x", ("and", (FALSE, bad))), "green", places)
        self.refused(("and", (FALSE, ("some", "y", ("and", (FALSE, bad))))), "green", places)

    def test_ahead_of_no_letter(self):
        self.refused(("mark", "green", "x"), "green")
        self.refused(("and", (MARK, ("mark", "green", "x"))), "green")
        self.refused(("and", (("same", "a", "b"), ("some", "y", ("arrow", "red", "y", "z")))), "red", {})


class NoLetterTest(unittest.TestCase):
    def refused(self, saying, letter, places=None):
        with self.assertRaises(NoLetter, msg=repr(saying)) as caught:
            holds(WORLD, saying, places)
        self.assertEqual(caught.exception.letter, letter)

    def test_each_kind(self):
        for places in (None, {}, {"y": 0, "z": 1, "w": 2}):
            for saying in (
                MARK, ("arrow", "likes", "x", "y"), ("arrow", "likes", "y", "x"), ("same", "x", "y"),
                ("same", "y", "x"),
                ("not", MARK), ("and", (MARK, TRUE)), ("and", (TRUE, MARK)), ("or", (FALSE, MARK)),
                ("some", "y", MARK), ("every", "y", MARK), ("least", 1, "y", MARK),
            ):
                self.refused(saying, "x", places)

    def test_the_first_by_a_to_z(self):
        saying = ("and", (("same", "z", "m"), ("same", "q", "b"), ("some", "a", ("same", "a", "c"))))
        self.refused(saying, "b")
        self.refused(saying, "c", {"b": 0})
        self.refused(saying, "m", {"c": 0, "b": 0, "a": 0})
        self.refused(saying, "q", {"m": 0, "c": 0, "b": 0})
        self.refused(saying, "z", {"q": 0, "m": 0, "c": 0, "b": 0})
        self.assertIs(holds(WORLD, saying, {"z": 0, "q": 0, "m": 0, "c": 0, "b": 0}), True)

    def test_where_its_truth_is_not_needed(self):
        self.refused(("and", (FALSE, MARK)), "x")
        self.refused(("or", (TRUE, MARK)), "x")
        self.refused(("least", 9, "y", MARK), "x")
        self.refused(("some", "y", ("or", (("same", "y", "y"), MARK))), "x")
        self.refused(("every", "y", ("and", (FALSE, ("same", "x", "y")))), "x")

    def test_bound_in_one_part_and_free_in_another(self):
        bound = ("some", "x", MARK)
        self.refused(("and", (bound, MARK)), "x")
        self.refused(("or", (bound, MARK)), "x")
        self.refused(("or", (MARK, bound)), "x")
        self.assertIs(holds(WORLD, ("and", (bound, bound))), True)

    def test_a_letter_that_is_only_bound_is_not_asked_for(self):
        self.assertIs(holds(WORLD, ("some", "x", ("every", "y", ("or", (("same", "x", "y"), TRUE))))), True)


if __name__ == "__main__":
    unittest.main()
