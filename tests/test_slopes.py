"""Promise 3: slopes and which of two is steeper."""

import unittest

from hillsight.slopes import slope, steeper
from tests.plain import TOP


class SlopeTest(unittest.TestCase):
    def test_slopes_in_a_land(self):
        land = [3, 1, 2, 5, -4]
        self.assertEqual(slope(land, 0, 1), (-2, 1))
        self.assertEqual(slope(land, 0, 2), (-1, 2))
        self.assertEqual(slope(land, 0, 3), (2, 3))
        self.assertEqual(slope(land, 1, 3), (4, 2))
        self.assertEqual(slope(land, 3, 4), (-9, 1))
        self.assertEqual(slope(land, 0, 4), (-7, 4))

    def test_a_level_slope(self):
        self.assertEqual(slope([6, 9, 6], 0, 2), (0, 2))

    def test_a_slope_is_a_tuple(self):
        self.assertIs(type(slope([1, 2], 0, 1)), tuple)

    def test_slopes_at_the_bound_of_heights(self):
        self.assertEqual(slope([-TOP, 0, TOP], 0, 2), (2 * TOP, 2))
        self.assertEqual(slope([TOP] + [0] * 198 + [-TOP], 0, 199), (-2 * TOP, 199))


class SteeperTest(unittest.TestCase):
    def check_steeper(self, one, other):
        with self.subTest(one=one, other=other):
            self.assertIs(steeper(one, other), True)
            self.assertIs(steeper(other, one), False)

    def check_equal(self, one, other):
        with self.subTest(one=one, other=other):
            self.assertIs(steeper(one, other), False)
            self.assertIs(steeper(other, one), False)

    def test_of_one_run(self):
        self.check_steeper((5, 3), (4, 3))
        self.check_steeper((1, 1), (0, 1))
        self.check_equal((4, 3), (4, 3))

    def test_of_one_rise(self):
        self.check_steeper((4, 2), (4, 3))
        self.check_steeper((-4, 3), (-4, 2))
        self.check_equal((0, 1), (0, 199))

    def test_of_different_runs(self):
        self.check_steeper((2, 3), (3, 5))
        self.check_steeper((3, 4), (8, 11))
        self.check_steeper((1, 1), (7, 8))

    def test_negative_rises(self):
        self.check_steeper((-3, 2), (-2, 1))
        self.check_steeper((-1, 100), (-1, 1))
        self.check_steeper((0, 5), (-1, 100))
        self.check_steeper((1, 100), (-100, 1))

    def test_equal_slopes_of_different_runs(self):
        self.check_equal((1, 2), (2, 4))
        self.check_equal((-3, 1), (-9, 3))
        self.check_equal((6, 9), (10, 15))
        self.check_equal((2 * TOP, 198), (TOP, 99))

    def test_large_rises(self):
        self.check_steeper((TOP + 1, 3), (TOP, 3))
        self.check_steeper((2 * TOP, 199), (2 * TOP - 1, 199))
        self.check_steeper((-2 * TOP + 1, 199), (-2 * TOP, 199))
        self.check_steeper((2 * TOP, 2), (TOP - 1, 1))
        self.check_steeper((TOP, 1), (2 * TOP - 1, 2))
        self.check_steeper((10 ** 40 + 1, 10), (10 ** 39, 1))

    def test_against_slopes_of_a_land(self):
        land = [0, 2, 3]
        self.check_steeper(slope(land, 0, 1), slope(land, 0, 2))
        self.check_steeper(slope(land, 0, 2), slope(land, 1, 2))


if __name__ == "__main__":
    unittest.main()
