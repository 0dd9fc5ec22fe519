"""Sayings: their form, depth, letters and tongue."""

import unittest

from pickalike.sayings import depth_of, free_of, is_plain, is_saying, letters_of, speaks

WORDS = ("and", "or", "not", "some", "every", "least", "true", "false")
MARK = ("mark", "red", "x")
ARROW = ("arrow", "likes", "x", "y")
SAME = ("same", "y", "z")
TRUE = ("and", ())
FALSE = ("or", ())
LEAVES = (MARK, ARROW, SAME, TRUE, FALSE)
GOOD = LEAVES + (
    ("same", "x", "x"),
    ("arrow", "likes", "x", "x"),
    ("not", MARK),
    ("not", ("not", TRUE)),
    ("and", (MARK, ARROW)),
    ("or", (MARK, ARROW)),
    ("and", (MARK, MARK)),
    ("or", (SAME, ARROW, MARK, TRUE, FALSE)),
    ("some", "x", MARK),
    ("every", "y", ARROW),
    ("some", "a", TRUE),
    ("least", 1, "x", MARK),
    ("least", 9, "z", SAME),
    ("some", "x", ("every", "x", ("least", 2, "x", MARK))),
    ("mark", "mark", "m"),
    ("arrow", "same", "x", "y"),
)


class Hostile:
    """A thing that can't be compared."""

    def __eq__(self, other):
        raise RuntimeError("compared")

    __hash__ = None


# Things that stand rightly in no place of a saying.
NOWHERE = (
    None, True, False, 0, -1, 10, 10 ** 500, 1.0, "", "X", "xx1", "1", b"x", b"mark", [], ["x"], ["mark", "red", "x"],
    {}, {"x": 1}, set(), object(), str, Hostile(), [MARK, MARK], "xyz abc", "\u00e4", "\u00df",
)


def wrapped(thing):
    """The thing in each place of a saying within another, and deeper."""
    return (
        ("not", thing),
        ("and", (thing, MARK)),
        ("and", (MARK, thing)),
        ("or", (thing, thing)),
        ("or", (MARK, thing, ARROW)),
        ("some", "x", thing),
        ("every", "y", thing),
        ("least", 3, "z", thing),
        ("not", ("some", "x", ("and", (("or", (MARK, thing)), SAME)))),
    )


def lettered(thing):
    """Sayings with the thing in each place of a letter."""
    return (
        ("mark", "red", thing),
        ("arrow", "to", thing, "x"),
        ("arrow", "to", "x", thing),
        ("same", thing, "x"),
        ("same", "x", thing),
        ("some", thing, MARK),
        ("every", thing, MARK),
        ("least", 1, thing, MARK),
    )


class FormTest(unittest.TestCase):
    def good(self, thing):
        self.assertIs(is_saying(thing), True, repr(thing))
        for other in wrapped(thing):
            self.assertIs(is_saying(other), True, repr(other))

    def bad(self, thing):
        self.assertIs(is_saying(thing), False, repr(thing))
        for other in wrapped(thing):
            self.assertIs(is_saying(other), False, repr(other))

    def test_good(self):
        for saying in GOOD:
            self.good(saying)

    def test_things_of_any_kind(self):
        for thing in NOWHERE + ((), ((),), (None,), ("x",), (0, 1), (Hostile(),), (["mark"], "red", "x")):
            self.bad(thing)

    def test_lengths(self):
        for saying in GOOD:
            self.bad(saying + ("x",))
            self.bad(saying + (MARK,))
            self.bad(saying + ((),))
            self.bad(saying[:-1])
            self.bad(saying[:1])
            self.bad((saying,))
            self.bad(("not",) + saying)

    def test_words(self):
        for saying in GOOD:
            for word in ("", "Mark", "marks", "true", "row", "mar", " mark", "x", b"mark", None, 0, True, ("mark",)):
                self.bad((word,) + saying[1:])
        self.bad(("mark", "likes", "x", "y"))
        self.bad(("arrow", "red", "x"))
        self.bad(("same", "x", "y", "z"))
        self.bad(("some", 1, "x", MARK))
        self.bad(("least", "x", MARK))
        self.bad(("some", MARK))
        self.bad(("not", (MARK, MARK)))
        self.bad(("not", ()))
        self.bad(("and", MARK))
        self.bad(("and", MARK, ARROW))
        self.bad(("and",))
        self.bad("true")

    def test_letters(self):
        for letter in "abcdefghijklmnopqrstuvwxyz":
            for saying in lettered(letter):
                self.good(saying)
        for letter in NOWHERE + ("xy", "A", "`", "{", " ", "x ", "\n", "\u0430", "0", (), ("x",), MARK):
            for saying in lettered(letter):
                self.bad(saying)

    def test_names(self):
        for name in ("ab", "abcdefgh", "ands", "truer", "mark"):
            self.good(("mark", name, "x"))
            self.good(("arrow", name, "x", "y"))
        for name in NOWHERE[:7] + ("", "x", "ninesigns", "Red", "r d", "red1", b"red", None, ("red",)) + WORDS:
            self.bad(("mark", name, "x"))
            self.bad(("arrow", name, "x", "y"))

    def test_parts(self):
        for word in ("and", "or"):
            self.good((word, ()))
            self.good((word, (MARK, MARK)))
            self.good((word, (MARK,) * 50))
            self.bad((word, (MARK,)))
            self.bad((word, ((),)))
            self.bad((word, [MARK, MARK]))
            self.bad((word, []))
            self.bad((word, {}))
            self.bad((word, "mark"))
            self.bad((word, ""))
            self.bad((word, None))
            for thing in NOWHERE:
                self.bad((word, thing))
                self.bad((word, (MARK, thing)))
                self.bad((word, (thing, MARK)))

    def test_number_of_least(self):
        for many in range(1, 10):
            self.good(("least", many, "x", MARK))
        for many in (0, 10, -1, 11, 10 ** 400, True, False, 1.0, 2.5, "1", None, (1,), [1], Hostile(), "x"):
            self.bad(("least", many, "x", MARK))

    def test_lists_in_the_place_of_tuples(self):
        for saying in GOOD:
            self.bad(list(saying))

    def test_sayings_within_that_are_none(self):
        for thing in NOWHERE:
            for other in wrapped(thing):
                self.assertIs(is_saying(other), False, repr(other))

    def test_deep_and_wide(self):
        deep = MARK
        for at in range(39):
            deep = (("not", deep), ("and", (MARK, deep)), ("or", (deep, MARK)))[at % 3]
        self.assertIs(is_saying(deep), True)
        deep = MARK
        other = []
        for at in range(39):
            deep = ("not", deep)
            other = ("not", other)
        self.assertIs(is_saying(deep), True)
        self.assertIs(is_saying(other), False)
        self.assertIs(is_saying(("and", (MARK,) * 1999)), True)
        nested = ()
        for at in range(40):
            nested = (nested,)
            self.assertIs(is_saying(nested), False)


class DepthTest(unittest.TestCase):
    def test_each_kind(self):
        for saying in LEAVES:
            self.assertEqual(depth_of(saying), 0)
            self.assertEqual(depth_of(("not", saying)), 0)
            self.assertEqual(depth_of(("some", "x", saying)), 1)
            self.assertEqual(depth_of(("every", "x", saying)), 1)
            self.assertEqual(depth_of(("least", 5, "x", saying)), 1)
        two = ("some", "x", ("least", 2, "y", ARROW))
        one = ("every", "x", MARK)
        self.assertEqual(depth_of(two), 2)
        for word in ("and", "or"):
            self.assertEqual(depth_of((word, (MARK, SAME))), 0)
            self.assertEqual(depth_of((word, (MARK, one, two))), 2)
            self.assertEqual(depth_of((word, (two, one, MARK))), 2)
            self.assertEqual(depth_of((word, (one, two, one))), 2)
            self.assertEqual(depth_of(("every", "z", (word, (one, two)))), 3)
        self.assertEqual(depth_of(("not", two)), 2)
        self.assertEqual(depth_of(("some", "x", ("some", "x", ("some", "x", MARK)))), 3)

    def test_is_a_number(self):
        for saying in GOOD:
            self.assertIs(type(depth_of(saying)), int)

    def test_deep(self):
        deep = TRUE
        for at in range(8):
            deep = ("not", ("and", (TRUE, ("some", "abcdefgh"[at], deep))))
        self.assertEqual(depth_of(deep), 8)


class LettersTest(unittest.TestCase):
    def test_letters_of_each_kind(self):
        for saying, letters in (
            (MARK, "x"), (ARROW, "xy"), (SAME, "yz"), (("same", "z", "a"), "az"), (("same", "x", "x"), "x"), (TRUE, ""),
            (FALSE, ""), (("not", ARROW), "xy"), (("and", (SAME, MARK)), "xyz"), (("or", (SAME, MARK)), "xyz"),
            (("some", "q", TRUE), "q"), (("every", "q", MARK), "qx"), (("least", 2, "b", ("mark", "red", "a")), "ab"),
            (("some", "z", ("some", "a", ("some", "m", TRUE))), "amz"), (("some", "x", MARK), "x"),
        ):
            self.assertEqual(letters_of(saying), list(letters), repr(saying))

    def test_free_of_each_kind(self):
        for saying, letters in (
            (MARK, "x"), (ARROW, "xy"), (SAME, "yz"), (("same", "z", "a"), "az"), (("same", "x", "x"), "x"), (TRUE, ""),
            (FALSE, ""), (("not", ARROW), "xy"), (("and", (SAME, MARK)), "xyz"), (("or", (SAME, MARK)), "xyz"),
            (("some", "q", TRUE), ""), (("every", "q", MARK), "x"), (("least", 2, "b", ("mark", "red", "a")), "a"),
            (("some", "x", MARK), ""), (("every", "x", MARK), ""), (("least", 2, "x", MARK), ""),
            (("some", "x", ARROW), "y"), (("every", "y", ARROW), "x"), (("least", 1, "y", SAME), "z"),
            (("not", ("some", "x", ARROW)), "y"), (("some", "x", ("not", ("some", "y", ARROW))), ""),
        ):
            self.assertEqual(free_of(saying), list(letters), repr(saying))

    def test_bound_in_one_part_and_free_in_another(self):
        for binder in (("some", "x"), ("every", "x"), ("least", 4, "x")):
            bound = binder + (ARROW,)
            for word in ("and", "or"):
                self.assertEqual(free_of((word, (bound, MARK))), ["x", "y"])
                self.assertEqual(free_of((word, (MARK, bound))), ["x", "y"])
                self.assertEqual(free_of((word, (bound, bound))), ["y"])
                self.assertEqual(free_of(("some", "y", (word, (bound, MARK)))), ["x"])
                self.assertEqual(letters_of((word, (bound, MARK))), ["x", "y"])

    def test_bound_anew_within_its_own(self):
        for inner in (("some", "x", MARK), ("every", "x", ARROW), ("least", 2, "x", ("same", "x", "w"))):
            saying = ("some", "x", ("and", (inner, MARK)))
            self.assertEqual(free_of(saying), free_of(inner))
            self.assertEqual(free_of(("and", (saying, MARK))), sorted(free_of(inner) + ["x"]))
        self.assertEqual(free_of(("every", "x", ("some", "x", ("some", "x", ARROW)))), ["y"])

    def test_lists_are_new_and_the_askers_own(self):
        saying = ("and", (ARROW, ("some", "z", SAME)))
        for ask in (letters_of, free_of):
            told = ask(saying)
            self.assertIs(type(told), list)
            before = list(told)
            told.append("q")
            told.reverse()
            self.assertEqual(ask(saying), before)
            self.assertIsNot(ask(saying), ask(saying))


class PlainTest(unittest.TestCase):
    def test_plain(self):
        for saying in LEAVES + (("not", MARK), ("and", (MARK, ARROW)), ("some", "x", ("every", "y", ARROW))):
            self.assertIs(is_plain(saying), True)
            for other in wrapped(saying):
                self.assertIs(is_plain(other), other[0] != "least", repr(other))

    def test_least_anywhere(self):
        least = ("least", 1, "x", MARK)
        self.assertIs(is_plain(least), False)
        for other in wrapped(least):
            self.assertIs(is_plain(other), False)
        self.assertIs(is_plain(("mark", "leasts", "x")), True)


class SpeaksTest(unittest.TestCase):
    tongue = (("blue", "red"), ("likes", "to"))

    def check(self, saying, truth):
        self.assertIs(speaks(saying, self.tongue), truth, repr(saying))
        for other in wrapped(saying):
            self.assertIs(speaks(other, self.tongue), truth, repr(other))

    def test_each_kind(self):
        for saying in GOOD[:14]:
            self.check(saying, True)

    def test_names(self):
        for name in ("blue", "red"):
            self.check(("mark", name, "x"), True)
            self.check(("arrow", name, "x", "y"), False)
        for name in ("likes", "to"):
            self.check(("mark", name, "x"), False)
            self.check(("arrow", name, "x", "y"), True)
        for name in ("re", "redd", "green"):
            self.check(("mark", name, "x"), False)
            self.check(("arrow", name, "x", "y"), False)

    def test_bare_tongue(self):
        self.assertIs(speaks(("some", "x", ("same", "x", "y")), ((), ())), True)
        self.assertIs(speaks(TRUE, ((), ())), True)
        self.assertIs(speaks(MARK, ((), ())), False)
        self.assertIs(speaks(MARK, ((), ("red",))), False)
        self.assertIs(speaks(ARROW, (("likes",), ())), False)
        self.assertIs(speaks(MARK, (("red",), ())), True)

    def test_one_wrong_among_many(self):
        wrong = ("mark", "green", "x")
        self.check(("and", (MARK, ARROW, wrong)), False)
        self.check(("or", (wrong, MARK, ARROW)), False)
        self.check(("or", (TRUE, ("some", "x", ("not", wrong)), MARK)), False)


if __name__ == "__main__":
    unittest.main()
