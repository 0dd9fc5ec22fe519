"""The desk: each row, and what is refused."""

import itertools
import unittest

from helper import DEEP_COUNTED, NO_NUMBERS, bare, couples, deep_couples, full, line, made_worlds, near, plain_depth
from helper import plain_layers, plain_moved, plain_turns, refused, ring, small_in_size

from pickalike.counted import counted_parted
from pickalike.desk import Desk
from pickalike.errors import NoCount, NoLetter, NoName, NoRow, NoSaying, NoTongue, NoWorld, TooMany
from pickalike.few import few_rounds
from pickalike.layers import parted
from pickalike.points import orbits
from pickalike.sayings import free_of, holds, is_plain
from pickalike.saytexts import read_saying
from pickalike.worlds import beside
from pickalike.worldtexts import show_world

LONG = (("aaaaaaaa", "bbbbbbbb", "cccccccc"), ("aaaaaaaa", "dddddddd", "eeeeeeee"))


def desk_with(**worlds):
    """A desk that keeps the worlds by these names."""
    desk = Desk()
    for name, world in worlds.items():
        assert desk.say(f"world {name} {show_world(world)}") == "ok"
    return desk


class RowsTest(unittest.TestCase):
    def answers(self, desk, row, answer):
        told = desk.say(row)
        self.assertIs(type(told), str)
        self.assertEqual(told, answer, row)

    def test_world_and_show(self):
        desk = Desk()
        for text in ("3; red: 0 2; likes> 0-1 1-1", "1", "8; red:", "4; to>; up> 3-3"):
            for name in ("someone", "aa", "zzzzzzzz", "world", "show", "say"):
                self.answers(desk, f"world {name} {text}", "ok")
                self.answers(desk, f"show {name}", text)

    def test_a_world_told_anew(self):
        desk = desk_with(one=line(3), other=line(3))
        self.answers(desk, "part one other", "alike")
        self.answers(desk, "world one 4; to>", "ok")
        self.answers(desk, "show one", "4; to>")
        self.answers(desk, "show other", show_world(line(3)))
        self.answers(desk, "count one other", "1 least 4 a true")
        self.answers(desk, "orbits one", "0+1+2+3")
        self.answers(desk, "world one 2; red: 1", "ok")
        self.answers(desk, "say one some x red(x)", "yes")

    def test_say(self):
        desk = desk_with(one=(3, (("red", (0, 2)),), (("likes", ((0, 1), (1, 1))),)))
        for saying, answer in (
            ("true", "yes"), ("false", "no"), ("some x red(x)", "yes"), ("every x red(x)", "no"),
            ("some x (red(x) and likes(x x))", "no"), ("every x (red(x) or likes(x x))", "yes"),
            ("least 2 x red(x)", "yes"), ("least 3 x red(x)", "no"), ("not every x some y likes(x y)", "yes"),
            ("some x every y (x = y or not likes(y x))", "yes"),
        ):
            self.answers(desk, f"say one {saying}", answer)

    def test_alike(self):
        for one, other in couples()[::9] + deep_couples():
            desk = desk_with(one=one, other=other)
            for depth, layer in enumerate(plain_layers(one, other, 6)):
                self.answers(desk, f"alike one other {depth}", "yes" if () in layer else "no")
        desk = desk_with(short=line(3), long=line(4))
        self.assertEqual([desk.say(f"alike short long {k}") for k in range(7)], ["yes"] * 3 + ["no"] * 4)

    def parts(self, row, one, other, depth):
        """Holds that a row of two worlds is answered by this depth and a saying that parts them; tells the saying."""
        told = desk_with(one=one, other=other).say(f"{row} one other")
        self.assertIs(type(told), str)
        if depth is None:
            self.assertEqual(told, "alike")
            return None
        number, text = told.split(" ", 1)
        self.assertEqual(number, str(depth))
        self.assertLessEqual(len(text), 19000)
        saying = read_saying(text)
        self.assertEqual(plain_depth(saying), depth)
        self.assertEqual(free_of(saying), [])
        self.assertIs(holds(one, saying), True)
        self.assertIs(holds(other, saying), False)
        small_in_size(self, saying)
        return saying

    def wide(self):
        """Couples of worlds of four points with long names, far from one another and near."""
        made = made_worlds(10, (4,), LONG, 14) + made_worlds(6, (4,), ((), LONG[1]), 15)
        return list(zip(made[:10], made[1:10])) + [(one, near(one)) for one in made]

    def test_part(self):
        found = {}
        for one, other in couples()[::3] + deep_couples() + self.wide() + list(DEEP_COUNTED):
            depth = parted(one, other)
            saying = self.parts("part", one, other, depth)
            self.assertTrue(saying is None or is_plain(saying))
            found[depth] = found.get(depth, 0) + 1
        self.assertEqual(set(found), {1, 2, 3, 4, None})

    def test_count(self):
        found = {}
        for one, other in couples()[::3] + deep_couples() + self.wide() + list(DEEP_COUNTED):
            depth = counted_parted(one, other)
            self.parts("count", one, other, depth)
            found[depth] = found.get(depth, 0) + 1
        self.assertEqual(set(found), {1, 2, 3, None})

    def test_few(self):
        found = set()
        for one, other in couples()[::5] + deep_couples():
            desk = desk_with(one=one, other=other)
            for letters in (1, 2, 3):
                rounds = [() in pairings for pairings in few_rounds(one, other, letters)]
                answer = "alike" if rounds[-1] else f"no {rounds.index(False)}"
                self.answers(desk, f"few one other {letters}", answer)
                found.add(answer)
        self.assertLessEqual({"alike", "no 1", "no 2", "no 3"}, found)
        desk = desk_with(one=bare(2), other=bare(3))
        self.assertEqual([desk.say(f"few one other {k}") for k in (1, 2, 3)], ["alike", "alike", "no 3"])

    def test_beside(self):
        desk = desk_with(one=line(2), other=ring(3))
        self.answers(desk, "beside both one other", "ok")
        self.answers(desk, "show both", show_world(beside(line(2), ring(3))))
        self.answers(desk, "beside one one other", "ok")
        self.answers(desk, "show one", show_world(beside(line(2), ring(3))))
        self.answers(desk, "beside other other other", "ok")
        self.answers(desk, "show other", show_world(beside(ring(3), ring(3))))
        self.answers(desk, "show both", show_world(beside(line(2), ring(3))))
        desk = desk_with(one=bare(4))
        self.answers(desk, "beside two one one", "ok")
        self.answers(desk, "show two", "8")

    def test_orbits(self):
        for world in made_worlds(20, (1, 2, 3, 4), ((), ("to",)), 2) + [bare(4), line(4), ring(4), bare(1)]:
            answer = " ".join("+".join(str(point) for point in orbit) for orbit in orbits(world))
            self.answers(desk_with(one=world), "orbits one", answer)
        self.answers(desk_with(one=(4, (("red", (1, 3)),), ())), "orbits one", "0+2 1+3")
        self.answers(desk_with(one=line(3)), "orbits one", "0 1 2")

    def test_turn(self):
        for one, other in couples()[::4] + [(one, plain_moved(one, (2, 0, 3, 1))) for one in (line(4), ring(4))]:
            told = desk_with(one=one, other=other).say("turn one other")
            self.assertIn(told, [" ".join(str(point) for point in order) for order in plain_turns(one, other)] or ["-"])
        desk = desk_with(one=line(3), other=plain_moved(line(3), (1, 2, 0)), more=line(4))
        self.answers(desk, "turn one other", "1 2 0")
        self.answers(desk, "turn other one", "2 0 1")
        self.answers(desk, "turn one more", "-")

    def test_one_world_twice(self):
        desk = desk_with(one=line(3))
        self.answers(desk, "part one one", "alike")
        self.answers(desk, "count one one", "alike")
        self.answers(desk, "few one one 2", "alike")
        self.answers(desk, "alike one one 6", "yes")
        self.answers(desk, "turn one one", "0 1 2")

    def test_two_desks_share_nothing(self):
        one, other = desk_with(aa=line(2)), desk_with(aa=ring(2), bb=bare(1))
        self.answers(one, "show aa", show_world(line(2)))
        self.answers(other, "show aa", show_world(ring(2)))
        refused(self, NoName, ("name", "bb"), one.say, "show bb")
        refused(self, NoName, ("name", "aa"), Desk().say, "show aa")


GOOD = (
    "show one", "say one true", "alike one other 2", "part one other", "count one other", "few one other 2",
    "beside both one other", "orbits one", "turn one other", "world more 1",
)


class NoRowTest(unittest.TestCase):
    def setUp(self):
        self.desk = desk_with(one=line(3), other=line(4))

    def no_row(self, *rows):
        for row in rows:
            refused(self, NoRow, ("row", row), self.desk.say, row)
            refused(self, NoRow, ("row", row), Desk().say, row)

    def test_the_good_ones_are_rows(self):
        for row in GOOD:
            self.assertIsInstance(self.desk.say(row), str)

    def test_no_texts(self):
        self.no_row(*NO_NUMBERS[:3], 0, 5, -1, 10 ** 300, 1.5, b"show one", [], ["show one"], ("show", "one"), {},
                    {"show": "one"}, object(), str)

    def test_empty_and_blank(self):
        self.no_row("", " ", "  ", "\n", "\t")

    def test_blanks_too_many_or_too_few(self):
        for row in GOOD:
            self.no_row(" " + row, row.replace(" ", "  ", 1), row.replace(" ", "", 1), row.replace(" ", "\t", 1),
                        row.replace(" ", "\n", 1))
            if row.split(" ")[0] not in ("say", "world"):
                self.no_row(row + " ", row.replace(" ", "  "), row + "\n", row + "\t", row.rsplit(" ", 1)[0] + " ")
        self.no_row("alike one other  2", "alike one  other 2", "beside both one  other", "beside both  one other")

    def test_unknown_words(self):
        self.no_row("shows one", "Show one", "SHOW one", "sho one", "orbit one", "parts one other", "one", "one show",
                    "show: one", "ok", "true", "moved one other", "world", "show", "say", "alike", "part", "count",
                    "few", "beside", "orbits", "turn")

    def test_words_too_many_or_too_few(self):
        for row in GOOD:
            if row.split(" ")[0] not in ("say", "world"):
                self.no_row(row + " one", row + " 1", row + " " + row, row.rsplit(" ", 1)[0])
        self.no_row("alike one 2", "alike one other", "few one 2", "few one other", "part one", "turn one", "count one",
                    "beside both one", "beside both", "show one other", "orbits one other", "part one other 2")

    def test_world_and_say_without_a_blank_behind_the_name(self):
        self.no_row("world more", "say one", "world", "say", "world ", "say ", "world  ", "say  true", "world  1")

    def test_names(self):
        for name in ("x", "", "ninelette", "Red", "r3", "and", "or", "not", "some", "every", "least", "true", "false",
                     "on-e", "one:", "\u00e4\u00e4", "12", "one\n", "-"):
            self.no_row(f"show {name}", f"orbits {name}", f"world {name} 1", f"say {name} true", f"part {name} other",
                        f"part one {name}", f"count {name} other", f"turn one {name}", f"alike {name} other 2",
                        f"alike one {name} 2", f"few one {name} 2", f"beside {name} one other",
                        f"beside both {name} other", f"beside both one {name}")

    def test_numbers(self):
        for number in ("", "10", "00", "01", "-1", "+1", "x", "two", "1.", "1.0", "\u0661", "\u00b2", "1 ", " 1", "1\n",
                       "1 2", "\uff11"):
            self.no_row(f"alike one other {number}", f"few one other {number}")

    def test_ahead_of_no_name(self):
        for row in ("show none other", "alike none other x", "part none x", "beside x none other", "few none none 12",
                    "turn none", "say none", "orbits none "):
            self.no_row(row)


class RefusedTest(unittest.TestCase):
    def setUp(self):
        self.desk = desk_with(one=line(3), other=line(4), red=(2, (("red", (0,)),), ()), big=full(5), wide=(6, (), ()))

    def refuses(self, error, field, *rows):
        """Holds that the rows are refused so, and that nothing is changed by it."""
        kept = [self.desk.say(f"show {name}") for name in ("one", "other", "red", "big", "wide")]
        for row in rows:
            refused(self, error, field, self.desk.say, row)
        self.assertEqual([self.desk.say(f"show {name}") for name in ("one", "other", "red", "big", "wide")], kept)
        refused(self, NoName, ("name", "more"), self.desk.say, "show more")

    def test_no_name_from_the_left(self):
        self.refuses(NoName, ("name", "none"), "show none", "orbits none", "say none true", "say none what",
                     "say none ", "part none nope", "part one none", "part big none", "count none other",
                     "count red none", "turn none nope", "turn one none", "alike none nope 2", "alike one none 9",
                     "alike big none 7", "few none nope 0", "few one none 4", "beside more none nope",
                     "beside more wide none", "beside none none one")

    def test_no_world(self):
        for text in ("", " ", "0", "9", "3 ", " 3", "3;", "3; red", "3; red: 3", "3; red: 1 0", "2; red: 0; red: 1",
                     "3; to> 0-1 0-1", "one", "03", "3; Red: 0", "3\n", "2; to> 0-1; red: 1", "\u0663"):
            self.refuses(NoWorld, None, f"world more {text}", f"world one {text}")

    def test_no_saying(self):
        for text in ("", " ", "true ", " true", "what", "some x", "(true)", "some x red(x", "red (x)", "least 0 x true",
                     "x=y", "some X red(X)", "true\n"):
            self.refuses(NoSaying, None, f"say red {text}", f"say one {text}")

    def test_names_of_sayings(self):
        self.refuses(NoName, ("name", "blue"), "say red some x blue(x)", "say red (blue(x) and red(y))",
                     "say one every x (x = x or blue(x x))")
        self.refuses(NoName, ("name", "red"), "say one red(x)", "say one (red(y) or blue(x))", "say red red(x x)")

    def test_letters_of_sayings(self):
        self.refuses(NoLetter, ("letter", "x"), "say red red(x)", "say red (some x red(x) and red(x))", "say red x = y",
                     "say red y = x", "say one some y to(x y)", "say big (true or x = x)")
        self.refuses(NoLetter, ("letter", "a"), "say red (b = a or x = y)")

    def test_no_tongue(self):
        self.refuses(NoTongue, None, "part one red", "part red one", "part big red", "count red other", "turn red one",
                     "turn big wide", "alike one red 2", "alike red big 9", "few one red 0", "few red one 9",
                     "few wide big 2", "beside more one red", "beside one red one", "beside more wide big")

    def test_too_many(self):
        self.refuses(TooMany, ("many", 5), "part one big", "part big one", "count big big", "turn big one",
                     "orbits big", "alike one big 2", "alike big one 9", "few big one 0", "few one big 2")
        self.refuses(TooMany, ("many", 6), "part wide wide", "orbits wide", "turn wide wide", "alike wide wide 7")
        self.refuses(TooMany, ("many", 9), "beside more other big", "beside other big other")
        self.refuses(TooMany, ("many", 12), "beside more wide wide")

    def test_no_count(self):
        for number in (7, 8, 9):
            self.refuses(NoCount, ("told", number), f"alike one other {number}", f"alike one one {number}")
        for number in (0, 4, 5, 6, 7, 8, 9):
            self.refuses(NoCount, ("told", number), f"few one other {number}", f"few red red {number}")

    def test_answers_as_ever_behind_a_refusal(self):
        self.refuses(NoTongue, None, "beside one one red")
        self.assertEqual(self.desk.say("alike one other 2"), "yes")
        self.assertEqual(self.desk.say("say big some x every y (x = y or to(x y))"), "yes")

    def test_each_by_itself(self):
        for row, desk in itertools.product(("show one", "say one true"), (Desk(), Desk())):
            refused(self, NoName, ("name", "one"), desk.say, row)


if __name__ == "__main__":
    unittest.main()
