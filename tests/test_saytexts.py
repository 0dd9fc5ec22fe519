"""Sayings written as texts, and read."""

import string
import unittest

from helper import FALSE, TRUE, made_sayings, refused

from pickalike.errors import NoSaying
from pickalike.sayings import is_saying
from pickalike.saytexts import read_saying, show_saying

WORDS = ("and", "or", "not", "some", "every", "least", "true", "false")
MARK = ("mark", "red", "x")
ARROW = ("arrow", "likes", "x", "y")
SAME = ("same", "x", "y")
WRITTEN = (
    (MARK, "red(x)"),
    (ARROW, "likes(x y)"),
    (SAME, "x = y"),
    (("same", "a", "a"), "a = a"),
    (("arrow", "to", "z", "z"), "to(z z)"),
    (TRUE, "true"),
    (FALSE, "false"),
    (("not", MARK), "not red(x)"),
    (("not", ("not", SAME)), "not not x = y"),
    (("and", (MARK, ARROW)), "(red(x) and likes(x y))"),
    (("or", (MARK, ARROW)), "(red(x) or likes(x y))"),
    (("and", (SAME, TRUE, FALSE)), "(x = y and true and false)"),
    (("or", (SAME, SAME, SAME, MARK)), "(x = y or x = y or x = y or red(x))"),
    (("and", (("or", (MARK, SAME)), ("and", (TRUE, TRUE)))), "((red(x) or x = y) and (true and true))"),
    (("or", (("not", SAME), ("some", "x", SAME))), "(not x = y or some x x = y)"),
    (("not", ("and", (MARK, SAME))), "not (red(x) and x = y)"),
    (("some", "x", MARK), "some x red(x)"),
    (("every", "y", ARROW), "every y likes(x y)"),
    (("some", "x", ("every", "y", SAME)), "some x every y x = y"),
    (("some", "a", TRUE), "some a true"),
    (("least", 1, "x", MARK), "least 1 x red(x)"),
    (("least", 9, "z", FALSE), "least 9 z false"),
    (("least", 2, "x", ("least", 3, "y", SAME)), "least 2 x least 3 y x = y"),
    (("every", "x", ("or", (MARK, ("not", MARK)))), "every x (red(x) or not red(x))"),
    (("and", (("some", "x", MARK), ("least", 4, "y", ("not", ARROW)))), "(some x red(x) and least 4 y not likes(x y))"),
    (("mark", "mark", "m"), "mark(m)"),
    (("mark", "andor", "o"), "andor(o)"),
    (("arrow", "notsome", "n", "s"), "notsome(n s)"),
    (("mark", "abcdefgh", "h"), "abcdefgh(h)"),
    (("arrow", "ab", "a", "b"), "ab(a b)"),
    (("mark", "same", "a"), "same(a)"),
)
REFUSED = (
    # blanks too many or too few
    "", " ", "  ", " red(x)", "red(x) ", "red (x)", "red( x)", "red(x )", "likes(x  y)", "likes( x y)", "likes(x y )",
    "likes(xy)", "likes(x,y)", "likes(x, y)", "x=y", "x =y", "x= y", "x  = y", "x =  y", " x = y", "x = y ",
    "notred(x) ", "not  red(x)", "not(red(x) and true)", "( red(x) and true)", "(red(x) and true )",
    "(red(x)and true)", "(red(x) andtrue)", "(red(x) and  true)", "(red(x)  and true)", "(trueand true)",
    "(true and (true or true) )", "somex red(x)", "some xred(x)", "some  x red(x)", "some x  red(x)", "some x(red(x))",
    "somex true", "every xtrue", "everyx true", "least 2x true", "least2 x true", "least  2 x true", "least 2  x true",
    "least 2 xtrue", "least 2 x  true", "true ", " false", "tr ue", "not\ttrue", "x\t=\ty", "likes(x\ty)",
    # brackets left out, too many, and one part alone within them
    "red", "red(", "red(x", "redx)", "red)", "redx", "likes(x y", "likesx y)", "red()", "likes( )", "red((x))",
    "red(x))", "(red(x)", "(red(x))", "((red(x)))", "(true)", "(x = y)", "(not true)", "not (true)", "some x (red(x))",
    "()", "(", ")", ")(", "( )", "(())", "(true and true", "true and true)", "true and true", "red(x) or x = y",
    "(true and)", "(and true)", "(true true)", "(true and true and)", "(true and true true)", "(and)", "(true and and)",
    "(true and (true)", "((true and true)", "(true and true))", "(true and true)(true or true)", "[true and true]",
    "(true and (true or))", "((true and true) and)",
    # two words in one pair of brackets
    "(true and true or true)", "(true or true and true)", "(true or true and true or true)", "(true = true)",
    "(true not true)", "(true x true)", "(true , true)", "(true And true)", "(true & true)",
    # numbers of least
    "least 0 x true", "least 10 x true", "least 01 x true", "least 00 x true", "least 1_0 x true", "least -1 x true",
    "least +1 x true", "least 1.0 x true", "least x true", "least x x true", "least  x true", "least 1 true",
    "least 1 1 true", "least one x true", "least true x true", "least \u0661 x true", "least \u00b2 x true",
    "least 1 2 x true", "some 1 x true", "every 2 true",
    # letters and names
    "xx = y", "x = yy", "X = y", "x = Y", "1 = 2", "x = 1", "= y", "x =", "=", "x", "x y", "x = y = z", "x = = y",
    "x == y", "x = true", "true = x", "x = red(x)", "not x", "some xx true", "some X true", "some true", "some x",
    "some", "every", "every x", "not", "least", "least 1", "least 1 x", "and", "or", "some = true", "some x y",
    "every true true", "r(x)", "a(x y)", "ninesigns(x)", "Red(x)", "re1(x)", "re-d(x)", "re_d(x)", "r\u00e4d(x)",
    "red(X)", "red(xx)", "red(1)", "red(x y z)", "likes(x yy)", "likes(xx y)", "likes(x Y)", "red(\u00e4)", "red(true)",
    "red(red(x))", "mark red x", "(x)", "(x y)", "(x red)", "True", "FALSE", "True and False", "truefalse", "nottrue",
    # lines' ends, and other signs
    "\n", "red(x)\n", "\nred(x)", "red(x)\r\n", "red(x)\r", "red(x\n)", "not\nred(x)", "(true\nand true)",
    "(true and\ntrue)", "x\n= y", "x =\ny", "true\n", "\ntrue", "x = y\n", "some x true\n", "true\ntrue",
    "true\0", "\0", "red(x);", "red(x).", "not, true", "\u00a0true", "true\u00a0", "not\u00a0true", "not\u2003true",
    # more than one saying
    "true true", "red(x) red(y)", "red(x)red(y)", "x = y x = y", "not true true", "some x true false",
    "(true and true) true", "true (true and true)",
) + tuple(f"{word}(x)" for word in WORDS) + tuple(f"{word}(x y)" for word in WORDS)


def wrapped(saying, text):
    """The saying in each place within another, with what its text is there."""
    return (
        (("not", saying), f"not {text}"),
        (("and", (saying, MARK)), f"({text} and red(x))"),
        (("or", (ARROW, saying)), f"(likes(x y) or {text})"),
        (("or", (saying, saying, saying)), f"({text} or {text} or {text})"),
        (("and", (SAME, saying, TRUE)), f"(x = y and {text} and true)"),
        (("some", "x", saying), f"some x {text}"),
        (("every", "q", saying), f"every q {text}"),
        (("least", 5, "z", saying), f"least 5 z {text}"),
        (("not", ("least", 2, "y", ("and", (("or", (saying, FALSE)), saying)))),
         f"not least 2 y (({text} or false) and {text})"),
    )


class SayTextTest(unittest.TestCase):
    def check(self, saying, text):
        self.assertIs(is_saying(saying), True, repr(saying))
        self.assertEqual(show_saying(saying), text)
        told = read_saying(text)
        self.assertEqual(told, saying)
        self.assertIs(is_saying(told), True, text)

    def refused(self, text):
        refused(self, NoSaying, None, read_saying, text)

    def test_each_kind_alone(self):
        for saying, text in WRITTEN:
            self.check(saying, text)

    def test_each_kind_within_others(self):
        for saying, text in WRITTEN:
            for more, longer in wrapped(saying, text):
                self.check(more, longer)
                for most, longest in wrapped(more, longer)[::3]:
                    self.check(most, longest)

    def test_each_letter_and_each_number(self):
        for x, y in zip(string.ascii_lowercase, string.ascii_lowercase[::-1]):
            self.check(("mark", "red", x), f"red({x})")
            self.check(("arrow", "red", x, y), f"red({x} {y})")
            self.check(("same", x, y), f"{x} = {y}")
            self.check(("some", x, TRUE), f"some {x} true")
            self.check(("every", y, FALSE), f"every {y} false")
        for number in range(1, 10):
            self.check(("least", number, "x", MARK), f"least {number} x red(x)")

    def test_made_sayings(self):
        texts = {}
        for saying in made_sayings("xyz", (("blue", "red"), ("likes", "red"))):
            text = show_saying(saying)
            self.assertEqual(read_saying(text), saying)
            self.assertEqual(texts.setdefault(text, saying), saying)

    def test_refused(self):
        for text in REFUSED:
            self.refused(text)

    def test_refused_within_others(self):
        # No text that is refused alone is right within brackets, but those that close brackets they haven't opened.
        for text in REFUSED:
            if ")" not in text and text not in ("true and true", "red(x) or x = y"):
                for more, longer in wrapped(TRUE, text):
                    self.refused(longer)

    def test_blanks_at_each_place(self):
        for saying, text in WRITTEN:
            for at in range(len(text) + 1):
                self.refused(text[:at] + "\n" + text[at:])
                self.refused(text[:at] + "  " + text[at:])
                # Without the blank behind a not, what follows may be another name: notred(x).
                if text[at:at + 1] in (" ", "(", ")") and not text[:at].endswith("not"):
                    self.refused(text[:at] + text[at + 1:])

    def test_things_that_are_no_texts(self):
        for thing in (None, True, False, 0, 1, 1.5, b"true", bytearray(b"true"), MARK, TRUE, ["true"], ("true",), {},
                      {"true": 1}, set(), object(), str):
            self.refused(thing)

    def test_each_text_near_by_is_refused_or_is_the_text_of_what_is_told(self):
        signs = " ()=019axrs\n"
        read = 0
        for saying, text in WRITTEN:
            near = [text[:at] + text[at + 1:] for at in range(len(text))]
            near += [text[:at] + sign + text[at:] for at in range(len(text) + 1) for sign in signs]
            near += [text[:at] + sign + text[at + 1:] for at in range(len(text)) for sign in signs]
            near += [text[:at] + text[at:at + 2][::-1] + text[at + 2:] for at in range(len(text))]
            near += [text.replace(word, other, 1) for word in WORDS for other in WORDS]
            for other in near:
                try:
                    told = read_saying(other)
                except NoSaying:
                    continue
                read += 1
                self.assertIs(is_saying(told), True, repr(other))
                self.assertEqual(show_saying(told), other)
                self.assertEqual(told == saying, other == text)
        self.assertGreater(read, 1000)

    def test_long_texts_that_are_none(self):
        for text in ("(" * 20000, ")" * 20000, "not " * 5000, "(true and " * 2000, " " * 20000, "some x " * 2900,
                     "x" * 20000, "= " * 9000, "(true and true" + ")" * 9000, "red(" * 5000, "least 1 x " * 2000,
                     "(" * 9000 + "true" + ")" * 9000, "true and " * 2000 + "true", "not " * 100000, "(" * 100000):
            self.refused(text)

    def test_the_most_that_is_promised(self):
        saying, text = MARK, "red(x)"
        for at in range(39):
            saying, text = wrapped(saying, text)[(0, 1, 2, 5, 7, 4)[at % 6]]
        self.check(saying, text)
        parts = (MARK, ("not", SAME)) * 660
        self.check(("and", parts), "(" + " and ".join(["red(x)", "not x = y"] * 660) + ")")
        self.check(("or", (TRUE,) * 1999), "(" + " or ".join(["true"] * 1999) + ")")

    def test_asked_again_the_same_is_told(self):
        for saying, text in WRITTEN:
            self.refused(text + ")")
            self.check(saying, text)
            self.check(saying, text)


if __name__ == "__main__":
    unittest.main()
