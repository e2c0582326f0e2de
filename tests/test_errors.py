"""The refusals: which there are, and under which class each stands."""

import unittest

from chiefway import errors

UNDER_CHIEF = (
    "NoWheel", "NoForm", "NoKind", "NoRoad", "NoMake", "NoHead", "TooBig",
    "NoName", "NoNumber", "NoDeed", "NoReading", "OutOfSteps", "NoText", "Uneven",
)


class Errors(unittest.TestCase):
    def test_chief_error_is_right_under_value_error(self):
        self.assertEqual(errors.ChiefError.__bases__, (ValueError,))

    def test_each_other_one_is_right_under_chief_error(self):
        for name in UNDER_CHIEF:
            with self.subTest(name=name):
                self.assertEqual(getattr(errors, name).__bases__, (errors.ChiefError,))

    def test_no_two_are_one_class(self):
        classes = [getattr(errors, name) for name in UNDER_CHIEF]
        self.assertEqual(len(set(classes)), 14)
        for name in UNDER_CHIEF:
            self.assertEqual(getattr(errors, name).__name__, name)

    def test_none_is_under_another_one(self):
        for name in UNDER_CHIEF:
            for other in UNDER_CHIEF:
                if name != other:
                    self.assertFalse(issubclass(getattr(errors, name), getattr(errors, other)))

    def test_each_is_raised_and_taken_as_any_refusal(self):
        for name in UNDER_CHIEF:
            with self.subTest(name=name), self.assertRaises(errors.ChiefError):
                raise getattr(errors, name)("words")


if __name__ == "__main__":
    unittest.main()
