"""Checking refusals, and what is neither a whole number nor a place."""

import unittest

NO_WHOLE_NUMBERS = (
    True, False, None, "1", "", b"1", 1.0, 0.5, float("nan"), float("inf"), 1j,
    [1], [], (1,), {}, {1: 1}, int, object(),
)


class RefusingTest(unittest.TestCase):
    """A test that tells which error a call raises."""

    def check_refused(self, error, told, *rest):
        """The error is of the very class, not of one under it."""
        with self.assertRaises(error) as caught:
            told(*rest)
        self.assertIs(type(caught.exception), error)
