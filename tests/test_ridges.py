"""Promises 7 and 8: the ridge and the towers."""

import unittest

from hillsight.looking import sees
from hillsight.ridges import ridge, tower
from tests.plain import TOP, lies_below, long_lands, plain_ridge, plain_sees, plain_tower, raised, small_lands

LAND = [3, 1, 2, 5, 4, 0, 6]
# The tower of the hill of each row towards that of each column.
TOWERS = [
    [None, 0, 0, 0, 6, 18, 2],
    [0, None, 0, 0, 7, 16, 4],
    [0, 0, None, 0, 5, 11, 3],
    [0, 0, 0, None, 0, 4, 0],
    [2, 4, 5, 0, None, 0, 0],
    [7, 10, 12, 4, 0, None, 0],
    [2, 6, 9, 0, 0, 0, None],
]


class RidgeTest(unittest.TestCase):
    def test_ridges_of_lands(self):
        self.assertEqual(ridge(LAND), [0, 3, 6])
        self.assertEqual(ridge([5, 6, 3, 6, 1, 0, 4]), [0, 1, 3, 6])
        self.assertEqual(ridge([0, 2, 1, 4, 6, 0]), [0, 1, 4, 5])
        self.assertEqual(ridge([0, 1, 5, 4, 0]), [0, 2, 3, 4])

    def test_one_two_and_three_hills(self):
        self.assertEqual(ridge([8]), [0])
        self.assertEqual(ridge([-8]), [0])
        self.assertEqual(ridge([8, -8]), [0, 1])
        self.assertEqual(ridge([-8, 8]), [0, 1])
        self.assertEqual(ridge([0, 1, 0]), [0, 1, 2])
        self.assertEqual(ridge([0, -1, 0]), [0, 2])

    def test_a_top_that_a_line_touches_is_on_the_ridge(self):
        self.assertEqual(ridge([0, 1, 2]), [0, 1, 2])
        self.assertEqual(ridge([4, 4, 4, 4]), [0, 1, 2, 3])
        self.assertEqual(ridge([9, 6, 3]), [0, 1, 2])
        self.assertEqual(ridge([0, -9, 2, -9, 4]), [0, 2, 4])
        self.assertEqual(ridge([0, 0, 9, 0, 0]), [0, 2, 4])
        self.assertEqual(ridge([-TOP, 0, TOP]), [0, 1, 2])

    def test_a_top_just_below_and_just_above_a_line(self):
        self.assertEqual(ridge([0, 1, 3]), [0, 2])
        self.assertEqual(ridge([0, 2, 3]), [0, 1, 2])
        # The line passes at a third and at two thirds: no whole number lies on it.
        self.assertEqual(ridge([0, 0, 0, 1]), [0, 3])
        self.assertEqual(ridge([0, 1, 0, 1]), [0, 1, 3])
        self.assertEqual(ridge([0, 0, 1, 1]), [0, 2, 3])

    def test_a_late_hill_puts_many_off_the_ridge(self):
        self.assertEqual(ridge([0, 4, 6, 7, 7, 40]), [0, 5])
        self.assertEqual(ridge([0, 4, 6, 7, 7, 9]), [0, 1, 2, 3, 5])
        self.assertEqual(ridge([9] + [0] * 198 + [9]), [0, 199])

    def test_heights_at_the_bound(self):
        self.assertEqual(ridge([-TOP, -1, TOP]), [0, 2])
        self.assertEqual(ridge([-TOP, 1, TOP]), [0, 1, 2])
        self.assertEqual(ridge([TOP, TOP, TOP]), [0, 1, 2])
        self.assertEqual(ridge([TOP, TOP - 1, TOP]), [0, 2])
        self.assertEqual(ridge([TOP, -TOP, TOP]), [0, 2])
        self.assertEqual(ridge([-TOP, TOP, -TOP]), [0, 1, 2])
        self.assertEqual(ridge([-TOP] * 200), list(range(200)))

    def test_on_straight_lands_and_those_curved_downwards_all_are_on_it(self):
        for name in ("level", "rising", "falling", "steepest rise", "dome", "deep dome", "peak"):
            with self.subTest(name=name):
                self.assertEqual(ridge(long_lands()[name]), list(range(200)))

    def test_on_lands_curved_upwards_only_the_ends_are_on_it(self):
        for name in ("valley", "high valley", "notch"):
            with self.subTest(name=name):
                self.assertEqual(ridge(long_lands()[name]), [0, 199])

    def test_against_the_plain_check(self):
        for land in small_lands():
            with self.subTest(land=land):
                self.assertEqual(ridge(land), plain_ridge(land))
        for name, land in long_lands().items():
            with self.subTest(name=name):
                self.assertEqual(ridge(land), plain_ridge(land))

    def test_neighbours_on_the_ridge_see_each_other_above_all_between(self):
        for name, land in long_lands().items():
            with self.subTest(name=name):
                places = ridge(land)
                for a, b in zip(places, places[1:]):
                    self.assertIs(sees(land, a, b), True)
                    self.assertTrue(all(lies_below(land, a, k, b) for k in range(a + 1, b)))


class TowerTest(unittest.TestCase):
    def check_least(self, land, a, b):
        """The tower makes a and b see each other, and one less does not; told is the tower."""
        height = tower(land, a, b)
        self.assertIs(type(height), int)
        self.assertGreaterEqual(height, 0)
        self.assertIs(plain_sees(raised(land, a, height), a, b), True)
        if height > 0:
            self.assertIs(plain_sees(raised(land, a, height - 1), a, b), False)
        self.assertEqual(height == 0, plain_sees(land, a, b))
        return height

    def test_towers_of_a_land(self):
        for a in range(7):
            for b in range(7):
                if a != b:
                    with self.subTest(a=a, b=b):
                        self.assertEqual(tower(LAND, a, b), TOWERS[a][b])

    def test_neighbours_need_none(self):
        for land in ([0, 0], [TOP, -TOP], [-TOP, TOP], [5, 9, 5, 9]):
            for a in range(len(land) - 1):
                self.assertEqual([tower(land, a, a + 1), tower(land, a + 1, a)], [0, 0])

    def test_the_two_orders_of_the_two_hills(self):
        self.assertEqual([tower([0, 3, 4], 0, 2), tower([0, 3, 4], 2, 0)], [3, 3])
        self.assertEqual([tower([0, 5, 5, 1], 0, 3), tower([0, 5, 5, 1], 3, 0)], [14, 15])
        self.assertEqual([tower([9, 0, 1, 2], 1, 3), tower([9, 0, 1, 2], 3, 1)], [1, 1])

    def test_where_a_top_touches_the_line_one_is_enough_beside_it(self):
        self.assertEqual(tower([0, 1, 2], 0, 2), 1)
        self.assertEqual(tower([0, 1, 2], 2, 0), 1)
        self.assertEqual(tower([4, 4, 4, 4, 4], 0, 4), 1)
        self.assertEqual(tower([4, 4, 4, 4, 4], 4, 0), 1)

    def test_where_the_touching_line_is_at_no_whole_number(self):
        # It is at three halves, at minus three halves, and at minus a half.
        self.assertEqual(tower([0, -9, 1, 0, -9], 0, 3), 4)
        self.assertEqual(tower([0, 1, 0, 0], 0, 3), 2)
        self.assertEqual(tower([-5, -1, 0, 0], 0, 3), 6)
        self.assertEqual(tower([-5, -1, -9, 0], 0, 3), 4)
        self.assertEqual(tower([0, 0, -1, -5], 3, 0), 6)
        self.assertEqual(tower([0, -9, -1, -5], 3, 0), 4)

    def test_the_top_that_asks_most_need_not_be_the_highest(self):
        self.assertEqual(tower([0, 9, 5, 0], 0, 3), 16)
        self.assertEqual(tower([0, 9, 4, 0], 0, 3), 14)
        self.assertEqual(tower([0, 5, 9, 0], 3, 0), 16)

    def test_hills_outside_of_the_pair_do_not_matter(self):
        self.assertEqual(tower([TOP, 0, -1, 0, TOP], 1, 3), 0)
        self.assertEqual(tower([-TOP, 0, 0, 0, -TOP], 3, 1), 1)

    def test_towers_beyond_the_bound_of_heights(self):
        self.assertEqual(tower([-TOP, TOP, -TOP], 0, 2), 4 * TOP + 1)
        self.assertEqual(tower([TOP, TOP, TOP], 0, 2), 1)
        self.assertEqual(tower([TOP, TOP, -TOP], 0, 2), 2 * TOP + 1)
        land = [-TOP] * 198 + [TOP, -TOP]
        self.assertEqual(tower(land, 0, 199), 398 * TOP + 1)
        self.assertEqual(tower(land[::-1], 199, 0), 398 * TOP + 1)
        self.assertEqual(tower(land, 199, 0), 2 * TOP + 2 * TOP // 198 + 1)

    def test_every_pair_of_small_lands_against_the_plain_check(self):
        for land in small_lands():
            with self.subTest(land=land):
                for a in range(len(land)):
                    for b in range(len(land)):
                        if a != b:
                            self.assertEqual(self.check_least(land, a, b), plain_tower(land, a, b))

    def test_every_pair_of_longer_lands(self):
        for name, land in long_lands(30).items():
            with self.subTest(name=name):
                for a in range(30):
                    for b in range(30):
                        if a != b:
                            self.check_least(land, a, b)

    def test_pairs_of_lands_of_200_hills(self):
        for name, land in long_lands().items():
            for a, b in ((0, 199), (3, 180), (50, 60), (100, 102), (198, 199)):
                with self.subTest(name=name, a=a, b=b):
                    self.check_least(land, a, b)
                    self.check_least(land, b, a)


if __name__ == "__main__":
    unittest.main()
