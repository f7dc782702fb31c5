"""The refusals: [3] and the interface of cutlands/errors.py."""

import unittest

from cutlands import errors

WITH_AT = ["NoCutting", "NoTable"]
WITH_TEXT = ["NoFraction", "NoSpot", "NoSigns", "NoLand", "NoFace", "NoNumber", "NoText", "NoDeed"]


def refusal(name):
    return getattr(errors, name)


class Errors(unittest.TestCase):
    def test_cut_error_stands_straight_under_value_error(self):
        self.assertEqual(errors.CutError.__bases__, (ValueError,))

    def test_each_refusal_stands_under_cut_error(self):
        for name in WITH_AT + WITH_TEXT:
            with self.subTest(name):
                self.assertTrue(issubclass(refusal(name), errors.CutError))
                self.assertIsNot(refusal(name), errors.CutError)

    def test_no_refusal_stands_under_another_one(self):
        for name in WITH_AT + WITH_TEXT:
            for other in WITH_AT + WITH_TEXT:
                with self.subTest(name=name, other=other):
                    self.assertEqual(issubclass(refusal(name), refusal(other)), name == other)

    def test_at_is_the_field_it_was_made_with(self):
        for name in WITH_AT:
            for at in (-1, 0, 7):
                with self.subTest(name=name, at=at):
                    self.assertEqual(refusal(name)(at).at, at)
                    self.assertEqual(refusal(name)(at=at).at, at)

    def test_the_others_are_made_with_a_text(self):
        for name in WITH_TEXT:
            with self.subTest(name):
                self.assertEqual(str(refusal(name)("why so")), "why so")

    def test_each_is_raised_and_taken_by_its_own_name_and_by_cut_error(self):
        for name in WITH_AT + WITH_TEXT:
            made = refusal(name)(3) if name in WITH_AT else refusal(name)("why so")
            for taken in (refusal(name), errors.CutError, ValueError):
                with self.subTest(name=name, taken=taken), self.assertRaises(taken):
                    raise made


if __name__ == "__main__":
    unittest.main()
