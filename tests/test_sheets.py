"""Sheets: their depth, and whether they hold of a world."""

import itertools
import unittest

from helper import FALSE, TRUE, all_worlds, bare, line, made_worlds, numbers, plain_depth, plain_holds, ring

from pickalike.sayings import holds, is_saying
from pickalike.sheets import sheet_depth, sheet_holds

RED = ("mark", "red", "x")
TO = ("arrow", "to", "x", "y")


def row(at, *letters):
    return ("row", at, letters)


def plain_sheet_depth(sheet, saying):
    """The depth of a saying within a sheet, by [25]."""
    if saying[0] == "row":
        return plain_sheet_depth(sheet, sheet[saying[1]][1])
    if saying[0] in ("and", "or"):
        return max((plain_sheet_depth(sheet, part) for part in saying[1]), default=0)
    if saying[0] in ("some", "every"):
        return plain_sheet_depth(sheet, saying[2]) + 1
    return plain_sheet_depth(sheet, saying[1]) if saying[0] == "not" else 0


HAND = (
    # One row alone.
    (((), TRUE),),
    (((), FALSE),),
    (((), ("some", "x", RED)),),
    (((), ("every", "x", ("some", "y", TO))),),
    # A row with its letters in another order, and with some alike.
    ((("x", "y"), TO), ((), ("some", "x", ("some", "y", ("and", (row(0, "x", "y"), ("not", row(0, "y", "x")))))))),
    ((("x", "y"), TO), ((), ("every", "x", row(0, "x", "x")))),
    ((("x", "y"), TO), ((), ("some", "y", row(0, "y", "y")))),
    ((("x",), ("some", "y", TO)), ((), ("every", "y", row(0, "y")))),
    ((("x", "y", "z"), ("and", (TO, ("arrow", "to", "y", "z"), ("not", ("same", "x", "z"))))),
     ((), ("some", "x", ("some", "y", ("some", "z", row(0, "z", "x", "y")))))),
    ((("x", "y", "z"), ("or", (TO, ("arrow", "to", "z", "y"), RED))),
     (("x", "y"), ("every", "z", ("or", (row(0, "z", "x", "y"), row(0, "x", "x", "z"), row(0, "y", "y", "y"))))),
     ((), ("some", "x", ("every", "y", ("and", (row(1, "y", "x"), row(1, "x", "x"))))))),
    # Rows that say nothing of their letters, and a row without letters within others.
    ((("x", "y"), TRUE), ((), ("some", "x", ("every", "y", row(0, "y", "x"))))),
    (((), ("some", "x", RED)), ((), ("not", row(0)))),
    (((), ("some", "x", RED)), (("x",), ("and", (row(0), ("not", RED)))),
     ((), ("or", (row(0), ("some", "x", row(1, "x")))))),
    # Letters at other points than those of the row that asks.
    ((("x",), RED), (("x",), ("some", "y", ("and", (TO, row(0, "y"))))), ((), ("every", "x", row(1, "x")))),
    ((("x",), RED), (("x",), ("some", "x", row(0, "x"))),
     ((), ("every", "x", ("and", (row(1, "x"), ("not", row(0, "x"))))))),
    ((("x",), RED), (("x", "y"), ("every", "x", ("or", (row(0, "x"), row(0, "y"))))),
     ((), ("some", "y", row(1, "y", "y")))),
    # A row that is never asked, and one asked in all ways.
    ((("x",), RED), (("x", "y"), TO), ((), ("some", "x", row(0, "x")))),
    ((("x",), RED), ((), ("and", (("some", "x", row(0, "x")), ("not", ("every", "y", row(0, "y"))),
                                  ("or", (("every", "z", row(0, "z")), ("some", "z", ("not", row(0, "z"))))))))),
    # Other letters, where they are bound.
    ((("x", "y"), ("some", "a", ("and", (("arrow", "to", "x", "a"), ("arrow", "to", "a", "y"))))),
     ((), ("every", "b", ("some", "q", row(0, "q", "b"))))),
)


def chain(length, step):
    """A sheet of so many rows with the letters x and y, each made of the one ahead of it, and a last one."""
    rows = [(("x", "y"), ("or", (TO, RED)))]
    for at in range(length):
        rows.append((("x", "y"), step(at)))
    return tuple(rows) + (((), ("some", "x", ("some", "y", row(length, "x", "y")))),)


STEPS = (
    lambda at: ("and", (row(at, "x", "y"), row(at, "x", "y"))),
    lambda at: ("or", (row(at, "y", "x"), row(at, "x", "x"))),
    lambda at: ("not", ("and", (row(at, "y", "x"), row(at, "x", "y")))),
    lambda at: ("some", "z", ("and", (row(at, "x", "z"), row(at, "z", "y")))),
    lambda at: ("every", "x", ("or", (row(at, "x", "y"), ("not", row(at, "y", "x"))))),
    lambda at: ("and", (("some", "y", row(at, "x", "y")), ("some", "x", row(at, "y", "x")))),
)


def worlds():
    """Worlds with the mark red and the arrow to."""
    shaped = [(one[0], (("red", (0,)),), one[2]) for one in (line(3), ring(4), ring(3), line(4))]
    return all_worlds(1) + all_worlds(2)[::3] + made_worlds(20, (3, 4, 5, 8)) + shaped


def made_sheet(source):
    """A sheet of a few rows made without chance."""
    rows = []
    for at in range(4):
        letters = ("x", "y", "z")[:next(source) % 4 if at < 3 else 0]
        rows.append((letters, made_saying(source, rows, letters, 2)))
    return tuple(rows)


def made_saying(source, rows, letters, left):
    """A saying that may ask the rows, with no free letters but these."""
    turn = next(source) % 9
    if left > 0 and turn < 3:
        letter = ("x", "y", "z")[next(source) % 3]
        more = tuple(sorted({*letters, letter}))
        return (("some", "every")[turn % 2], letter, made_saying(source, rows, more, left - 1))
    if left > 0 and turn < 5:
        return (("and", "or")[turn % 2],
                tuple(made_saying(source, rows, letters, left - 1) for k in range(2 + next(source) % 2)))
    if turn == 5:
        return ("not", made_saying(source, rows, letters, left))
    asked = [at for at, (own, saying) in enumerate(rows) if letters or not own]
    if asked and turn > 5:
        at = asked[next(source) % len(asked)]
        return ("row", at, tuple(letters[next(source) % len(letters)] for one in rows[at][0]))
    if not letters:
        return (TRUE, FALSE)[turn % 2]
    x, y = letters[next(source) % len(letters)], letters[next(source) % len(letters)]
    return (("mark", "red", x), ("arrow", "to", x, y), ("same", x, y))[next(source) % 3]


class DepthTest(unittest.TestCase):
    def test_by_hand(self):
        self.assertEqual([sheet_depth(sheet) for sheet in HAND],
                         [0, 0, 1, 2, 2, 1, 1, 2, 3, 3, 2, 1, 2, 2, 2, 2, 1, 1, 3])
        for sheet in HAND:
            self.assertEqual(sheet_depth(sheet), plain_sheet_depth(sheet, sheet[-1][1]))

    def test_the_last_row_tells(self):
        self.assertEqual(sheet_depth((((), ("some", "x", ("some", "y", TO))), ((), TRUE))), 0)
        self.assertEqual(sheet_depth((((), ("some", "x", ("some", "y", TO))), ((), row(0)))), 2)
        self.assertEqual(sheet_depth((((), ("some", "x", RED)), ((), ("and", (TRUE, ("not", row(0))))))), 1)

    def test_chains(self):
        for at, step in enumerate(STEPS):
            for length in (1, 2, 5):
                sheet = chain(length, step)
                self.assertEqual(sheet_depth(sheet), 2 + (length if at > 2 else 0))
                self.assertEqual(sheet_depth(sheet), plain_sheet_depth(sheet, sheet[-1][1]))
            self.assertEqual(sheet_depth(chain(1998, step)), 2 + (1998 if at > 2 else 0))

    def test_made(self):
        source = numbers(5)
        found = set()
        for turn in range(400):
            sheet = made_sheet(source)
            self.assertEqual(sheet_depth(sheet), plain_sheet_depth(sheet, sheet[-1][1]), sheet)
            found.add(sheet_depth(sheet))
        self.assertLessEqual({0, 1, 2, 3, 4}, found)

    def test_without_rows_in_it_as_a_saying(self):
        for saying in (("some", "x", RED), TRUE, ("every", "x", ("some", "y", ("not", TO)))):
            self.assertEqual(sheet_depth((((), saying),)), plain_depth(saying))


class HoldsTest(unittest.TestCase):
    def test_by_hand(self):
        found = {}
        for sheet, world in itertools.product(HAND, worlds()):
            told = sheet_holds(world, sheet)
            self.assertIs(told, plain_holds(world, sheet[-1][1], {}, sheet), (world, sheet))
            found.setdefault(told, set()).add(sheet)
        self.assertGreater(len(found[True] & found[False]), 12)

    def test_order_of_letters(self):
        sheet = ((("x", "y"), TO), (("x", "y"), ("and", (row(0, "y", "x"), ("not", row(0, "x", "y"))))),
                 ((), ("some", "x", ("and", (RED, ("some", "y", row(1, "x", "y")))))))
        self.assertIs(sheet_holds((2, (("red", (1,)),), (("to", ((0, 1),)),)), sheet), True)
        self.assertIs(sheet_holds((2, (("red", (0,)),), (("to", ((0, 1),)),)), sheet), False)
        self.assertIs(sheet_holds((2, (("red", (0, 1)),), (("to", ((0, 1), (1, 0))),)), sheet), False)

    def test_made(self):
        source = numbers(11)
        found = {True: 0, False: 0}
        for turn in range(300):
            sheet = made_sheet(source)
            for world in worlds()[turn % 5::5]:
                told = sheet_holds(world, sheet)
                self.assertIs(told, plain_holds(world, sheet[-1][1], {}, sheet), (world, sheet))
                found[told] += 1
        self.assertGreater(min(found.values()), 500)

    def test_short_chains(self):
        for step, length in itertools.product(STEPS, range(4)):
            sheet = chain(length, step)
            for world in worlds()[::4]:
                if world[0] < 5:
                    self.assertIs(sheet_holds(world, sheet), plain_holds(world, sheet[-1][1], {}, sheet))

    def test_a_row_asked_often(self):
        # Reckoned anew each time it is asked, the first row would be reckoned 2 ** 60 times and more.
        world = (3, (("red", ()),), (("to", ((0, 1), (1, 2))),))
        for at, step in enumerate(STEPS):
            told = [sheet_holds(world, chain(length, step)) for length in (58, 59, 60, 61)]
            self.assertEqual(told[:2], told[2:])
        self.assertIs(sheet_holds(world, chain(60, STEPS[0])), True)
        # Two steps are as long as 2 ** 60 arrows behind one another, of which there are none but in a ring.
        self.assertIs(sheet_holds(world, chain(60, STEPS[3])), False)
        self.assertIs(sheet_holds((3, (("red", ()),), ring(3)[2]), chain(60, STEPS[3])), True)

    def test_as_many_rows_as_may_be(self):
        world = (4, (("red", ()),), (("to", ((0, 1), (1, 2), (3, 3))),))
        self.assertIs(sheet_holds(world, chain(1998, STEPS[0])), True)
        self.assertIs(sheet_holds(world, chain(1998, STEPS[3])), True)
        self.assertIs(sheet_holds((4, (("red", ()),), (("to", ()),)), chain(1998, STEPS[0])), False)

    def test_deep_within_one_row(self):
        saying = row(0, "x")
        for step in range(36):
            saying = ("not", saying)
        sheet = ((("x",), RED), ((), ("some", "x", saying)))
        self.assertIs(sheet_holds((2, (("red", (1,)),), ()), sheet), True)
        self.assertIs(sheet_holds((2, (("red", ()),), ()), sheet), False)

    def test_eight_points(self):
        for world in (bare(8), line(8), ring(8)):
            marked = (world[0], (("red", (2,)),), world[2] or (("to", ()),))
            for sheet in HAND:
                self.assertIs(sheet_holds(marked, sheet), plain_holds(marked, sheet[-1][1], {}, sheet))

    def test_without_rows_in_it_as_a_saying(self):
        for saying in (("some", "x", RED), TRUE, FALSE, ("every", "x", ("some", "y", ("not", TO)))):
            for world in worlds():
                self.assertIs(sheet_holds(world, (((), saying),)), holds(world, saying))

    def test_a_row_is_no_saying_by_itself(self):
        self.assertFalse(is_saying(row(0)))
        self.assertFalse(is_saying(("not", row(0, "x"))))
        self.assertFalse(is_saying(("some", "x", row(0, "x"))))


if __name__ == "__main__":
    unittest.main()
