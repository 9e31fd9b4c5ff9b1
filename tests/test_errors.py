"""The error classes and where each one stands."""

import unittest

from hillsight import errors

NAMES = ("NoLand", "NoHill", "SameHill", "TooHigh", "NothingDone")


class ErrorsTest(unittest.TestCase):
    def test_hill_error_is_a_value_error(self):
        self.assertEqual(errors.HillError.__bases__, (ValueError,))

    def test_each_refusal_is_a_hill_error(self):
        for name in NAMES:
            with self.subTest(name=name):
                kind = getattr(errors, name)
                self.assertTrue(issubclass(kind, errors.HillError))
                self.assertTrue(issubclass(kind, ValueError))
                self.assertEqual(kind.__name__, name)
                self.assertEqual(kind.__module__, "hillsight.errors")

    def test_no_refusal_stands_under_another(self):
        for name in NAMES:
            for other in NAMES:
                if name != other:
                    with self.subTest(name=name, other=other):
                        self.assertFalse(issubclass(getattr(errors, name), getattr(errors, other)))

    def test_each_can_be_raised_and_caught_as_a_hill_error(self):
        for name in NAMES:
            with self.subTest(name=name):
                with self.assertRaises(errors.HillError):
                    raise getattr(errors, name)("refused")


if __name__ == "__main__":
    unittest.main()
