"""The refusals: which class stands under which, and their fields."""

import unittest

from pickalike import errors
from pickalike.errors import PickError

BARE = ("NoWorld", "NoTongue", "NoSaying", "NoMore")
FIELDS = {
    "NoName": "name",
    "NoLetter": "letter",
    "TooMany": "many",
    "NoCount": "told",
    "NoPoint": "point",
    "NoRow": "row",
}
# A refused thing may be of any kind.
THINGS = (None, True, 0, -7, 10 ** 5000, 2.5, "", "red", b"red", (), [1], {}, {"a": 1}, object())


class ErrorsTest(unittest.TestCase):
    def classes(self):
        return {name: getattr(errors, name) for name in list(BARE) + list(FIELDS)}

    def test_pick_error_stands_straight_under_value_error(self):
        self.assertEqual(PickError.__bases__, (ValueError,))

    def test_each_stands_under_pick_error(self):
        for name, one in self.classes().items():
            self.assertTrue(issubclass(one, PickError), name)
            self.assertNotEqual(one, PickError, name)

    def test_none_stands_under_another(self):
        found = self.classes()
        for name, one in found.items():
            for again, other in found.items():
                if name != again:
                    self.assertFalse(issubclass(one, other), (name, again))

    def test_those_without_fields(self):
        for name in BARE:
            error = getattr(errors, name)()
            self.assertIsInstance(error, PickError)
            self.assertEqual(vars(error), {}, name)

    def test_fields_hold_the_very_thing_refused(self):
        for name, field in FIELDS.items():
            for thing in THINGS:
                error = getattr(errors, name)(thing)
                self.assertEqual(list(vars(error)), [field], name)
                self.assertIs(getattr(error, field), thing)

    def test_the_thing_refused_is_not_left_out(self):
        for name in FIELDS:
            with self.assertRaises(TypeError):
                getattr(errors, name)()

    def test_words_can_be_shown_whatever_is_refused(self):
        for name in FIELDS:
            for thing in THINGS:
                self.assertIsInstance(str(getattr(errors, name)(thing)), str)

    def test_raised_and_taken_as_a_value_error(self):
        for name in FIELDS:
            with self.assertRaises(ValueError):
                raise getattr(errors, name)("thing")


if __name__ == "__main__":
    unittest.main()
