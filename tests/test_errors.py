"""The interface of ringloads.errors."""

import unittest

from ringloads import errors

OF_A_TEXT = ["NoNumber", "TooMany", "NoChange", "NoPlace", "NoDay", "NoRow", "NoName"]
OF_FIELDS = {
    "NoRing": ("part", "number"),
    "NoSlide": ("number",),
    "NoTree": ("way",),
    "NoString": ("number",),
    "NoText": ("row",),
}


class Errors(unittest.TestCase):
    def test_load_error_is_a_value_error_made_of_a_text(self):
        self.assertEqual(errors.LoadError.__bases__, (ValueError,))
        self.assertIsInstance(errors.LoadError("some words"), ValueError)

    def test_each_stands_straight_under_load_error(self):
        for name in OF_A_TEXT + sorted(OF_FIELDS):
            self.assertEqual(getattr(errors, name).__bases__, (errors.LoadError,), name)

    def test_those_without_fields_are_made_of_a_text(self):
        for name in OF_A_TEXT:
            with self.assertRaises(errors.LoadError):
                raise getattr(errors, name)("some words")
            with self.assertRaises(getattr(errors, name)):
                raise getattr(errors, name)("some words")

    def test_fields_are_set_in_their_order(self):
        values = {"part": "rooms", "number": 7, "way": ["on", "back"], "row": 3}
        for name, fields in OF_FIELDS.items():
            made = getattr(errors, name)(*[values[field] for field in fields])
            for field in fields:
                self.assertEqual(getattr(made, field), values[field], (name, field))
            with self.assertRaises(errors.LoadError):
                raise made

    def test_fields_may_be_none(self):
        self.assertIsNone(errors.NoRing("ring", None).number)
        self.assertEqual(errors.NoRing("ring", None).part, "ring")
        self.assertIsNone(errors.NoSlide(None).number)
        self.assertIsNone(errors.NoString(None).number)
