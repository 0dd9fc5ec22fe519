"""Worlds written as texts, and read."""

import itertools
import unittest

from pickalike.errors import NoWorld
from pickalike.worlds import is_world
from pickalike.worldtexts import read_world, show_world

WORLD = (3, (("red", (0, 2)),), (("likes", ((0, 1), (1, 1))),))
TEXT = "3; red: 0 2; likes> 0-1 1-1"
WRITTEN = (
    (WORLD, TEXT),
    ((1, (), ()), "1"),
    ((8, (), ()), "8"),
    ((2, (("red", ()),), ()), "2; red:"),
    ((2, (), (("to", ()),)), "2; to>"),
    ((2, (("red", ()),), (("red", ()),)), "2; red:; red>"),
    ((2, (("aa", ()), ("bb", (0, 1)), ("cc", (1,))), ()), "2; aa:; bb: 0 1; cc: 1"),
    ((8, (("abcdefgh", (0, 7)),), (("aa", ((0, 0), (7, 7))), ("bb", ()), ("zz", ((3, 4),)))),
     "8; abcdefgh: 0 7; aa> 0-0 7-7; bb>; zz> 3-4"),
)
REFUSED = (
    # blanks and other signs too many or too few
    " 3", "3 ", "3;", "3; ", "3; ;", "; 3", ";3", "3;red: 0", "3;  red: 0", "3 ; red: 0", "3; red : 0", "3; red:0",
    "3; red:  0", "3; red: 0  2", "3; red: 02", "3; red: ", "3; red: 0 ", "3; red: 0;", "3; red: 0; ", "3; red",
    "3; red 0", "3; red:: 0", "3; red: 0,2", "3; red: 0 2 likes> 0-1", "3; red: 0 2;likes> 0-1", "3; likes>0-1",
    "3; likes > 0-1", "3; likes>  0-1", "3; likes> 0-1  1-1", "3; likes> 0-1 ", "3; likes> 0 -1", "3; likes> 0- 1",
    "3; likes> 0 - 1", "3; likes> ", "3; likes>> 0-1", "3; likes> 01", "3; likes> 0", "3; likes> 0-", "3; likes> -1",
    "3; likes> 0--1", "3; likes> 0-1-2", "3; likes>: 0-1", "3; likes:> 0-1", "3\t; red: 0", "3;\tred: 0",
    "3; red:\t0", "3; red: 0\t2", "3 red: 0", "3, red: 0", "3: red: 0", "red: 0", "; red: 0", "3; : 0", "3; > 0-1",
    # numbers
    "", "0", "9", "10", "-1", "+1", "00", "01", "003", "1.0", "1_0", "x", "\u0663", "\u00b2", "True", "1e0",
    "3; red: 00", "3; red: +1", "3; red: -1", "3; red: 3", "3; red: 01", "3; red: 1.0", "3; red: \u0661", "3; red: x",
    "3; likes> 00-1", "3; likes> 0-01", "3; likes> +0-1", "3; likes> 0-+1", "3; likes> 0-3", "3; likes> 3-0",
    "8; red: 8", "8; likes> 8-0", "8; likes> 0-8", "3; likes> \u0660-1", "3; likes> x-y",
    # ends of lines
    "\n", "3\n", "\n3", "3\r\n", TEXT + "\n", "\n" + TEXT, TEXT + "\r", TEXT.replace("; ", ";\n"), TEXT + "\n" + TEXT,
    TEXT.replace("; ", "\n; "), TEXT.replace("0 2", "0\n2"),
    # parts twice or out of their order
    "3; red: 0; red: 0", "3; red:; red:", "3; red: 0; red: 2", "3; likes> 0-1; likes> 0-1", "3; red: 2 0",
    "3; red: 0 0", "3; likes> 1-1 0-1", "3; likes> 0-1 0-1", "3; likes> 0-1; red: 0 2", "3; likes>; red:",
    "3; red: 0; blue: 1", "3; to> 0-1; at> 0-1", "3; blue:; to>; red:", "3; 3", "3; 3; red: 0",
    # names, and too many of them
    "3; r: 0", "3; Red: 0", "3; and: 0", "3; true:", "3; not> 0-1", "3; ninesigns: 0", "3; r1: 0", "3; re d: 0",
    "3; a> 0-1", "3; every>", "3; r\u00e4d: 0", "3; aa:; bb:; cc:; dd:", "3; aa>; bb>; cc>; dd>",
    # other things
    "3; red: 0-1", "3; likes> 0 1", "world", "(3, (), ())", "3; red: 0 likes> 0-1", "\0", "3\0", "3; red: 0\0",
)


class WorldTextTest(unittest.TestCase):
    def refused(self, thing):
        with self.assertRaises(NoWorld, msg=repr(thing)):
            read_world(thing)

    def test_written(self):
        for world, text in WRITTEN:
            self.assertEqual(show_world(world), text)

    def test_read(self):
        for world, text in WRITTEN:
            told = read_world(text)
            self.assertEqual(told, world)
            self.assertIs(is_world(told), True)

    def test_all_worlds_of_two_points_are_read_again(self):
        points = [some for k in range(3) for some in itertools.combinations(range(2), k)]
        pairs = list(itertools.product(range(2), repeat=2))
        led = [some for k in range(5) for some in itertools.combinations(pairs, k)]
        texts = {}
        for one, other, there in itertools.product(points, points, led):
            world = (2, (("ab", one), ("red", other)), (("to", there),))
            text = show_world(world)
            self.assertEqual(read_world(text), world)
            texts[text] = world
        self.assertEqual(len(texts), len(points) ** 2 * len(led))

    def test_each_number(self):
        for many in range(1, 9):
            points = tuple(range(many))
            pairs = tuple(itertools.product(points, repeat=2))
            world = (many, (("red", points),), (("to", pairs),))
            marks = "".join(f" {point}" for point in points)
            arrows = "".join(f" {one}-{other}" for one, other in pairs)
            text = f"{many}; red:{marks}; to>{arrows}"
            self.assertEqual(show_world(world), text)
            self.assertEqual(read_world(text), world)

    def test_refused(self):
        for text in REFUSED:
            self.refused(text)

    def test_things_that_are_no_texts(self):
        for thing in (None, True, 0, 3, 1.5, b"3", bytearray(b"3"), WORLD, [TEXT], (TEXT,), {}, {TEXT: 1}, set(), str):
            self.refused(thing)

    def test_long_texts(self):
        for text in ("3" * 20000, "; " * 9000, "3; red:" + " 0" * 9000, "3" + "; red:" * 3000, "-" * 20000, " " * 9000):
            self.refused(text)

    def test_each_text_near_by_is_refused_or_is_the_text_of_what_is_told(self):
        signs = "0123 89;:>-+arx\n"
        read = 0
        for world, text in WRITTEN:
            near = [text[:at] + text[at + 1:] for at in range(len(text))]
            near += [text[:at] + sign + text[at:] for at in range(len(text) + 1) for sign in signs]
            near += [text[:at] + sign + text[at + 1:] for at in range(len(text)) for sign in signs]
            near += [text[:at] + text[at:at + 2][::-1] + text[at + 2:] for at in range(len(text))]
            for other in near:
                try:
                    told = read_world(other)
                except NoWorld:
                    continue
                read += 1
                self.assertIs(is_world(told), True, repr(other))
                self.assertEqual(show_world(told), other)
                self.assertEqual(told == world, other == text)
        self.assertGreater(read, 100)


if __name__ == "__main__":
    unittest.main()
