"""Promises 9 and 10: the hops of a hill and the way from one hill to another."""

import unittest

from hillsight.looking import sees
from hillsight.signals import hops, way
from tests.plain import TOP, long_lands, plain_hops, plain_views, plain_way, plain_ways_to, small_lands

LAND = [3, 1, 2, 5, 4, 0, 6]
NEIGHBOURS_ALONE = ("level", "rising", "falling", "steepest rise", "dome", "deep dome")
ALL_SEE_ALL = ("valley", "high valley")


class HopsTest(unittest.TestCase):
    def test_hops_at_the_ends_and_in_the_middle(self):
        self.assertEqual(hops(LAND, 0), [0, 1, 1, 1, 2, 3, 2])
        self.assertEqual(hops(LAND, 2), [1, 1, 0, 1, 2, 3, 2])
        self.assertEqual(hops(LAND, 3), [1, 1, 1, 0, 1, 2, 1])
        self.assertEqual(hops(LAND, 5), [3, 3, 3, 2, 1, 0, 1])
        self.assertEqual(hops(LAND, 6), [2, 2, 2, 1, 1, 1, 0])

    def test_lands_of_one_and_two_hills(self):
        self.assertEqual(hops([8], 0), [0])
        self.assertEqual(hops([8, -8], 0), [0, 1])
        self.assertEqual(hops([8, -8], 1), [1, 0])

    def test_fewer_steps_by_a_hill_beyond_the_other(self):
        self.assertEqual(hops([0, 0, 0, 0, 0, 0, 1], 1), [1, 0, 1, 2, 2, 2, 1])
        self.assertEqual(hops([1, 0, 0, 0, 0, 0, 0], 5), [1, 2, 2, 2, 1, 0, 1])

    def test_straight_lands_go_from_neighbour_to_neighbour(self):
        for name in NEIGHBOURS_ALONE:
            land = long_lands()[name]
            for a in (0, 1, 77, 198, 199):
                with self.subTest(name=name, a=a):
                    self.assertEqual(hops(land, a), [abs(place - a) for place in range(200)])

    def test_in_lands_curved_upwards_all_are_one_step_away(self):
        for name in ALL_SEE_ALL:
            land = long_lands()[name]
            for a in (0, 100, 199):
                with self.subTest(name=name, a=a):
                    self.assertEqual(hops(land, a), [int(place != a) for place in range(200)])

    def check_plain(self, land, starts):
        views = plain_views(land)
        for a in starts:
            self.assertEqual(hops(land, a), plain_hops(views, a))

    def test_small_lands_against_plain_going_out(self):
        for land in small_lands():
            with self.subTest(land=land):
                self.check_plain(land, range(len(land)))

    def test_longer_lands_against_plain_going_out(self):
        for name, land in long_lands(30).items():
            with self.subTest(name=name):
                self.check_plain(land, range(30))

    def test_lands_of_200_hills_against_plain_going_out(self):
        for name in ("peak", "notch", "from edge to edge", "mixed low", "mixed high"):
            with self.subTest(name=name):
                self.check_plain(long_lands()[name], (0, 99, 199))

    def test_hops_are_whole_numbers_in_a_list(self):
        told = hops(LAND, 4)
        self.assertIs(type(told), list)
        self.assertEqual({type(count) for count in told}, {int})


class WayTest(unittest.TestCase):
    def check_way(self, land, a, b, expected):
        with self.subTest(land=land[:10], a=a, b=b):
            self.assertEqual(way(land, a, b), expected)

    def test_ways_of_a_land(self):
        self.check_way(LAND, 0, 3, [0, 3])
        self.check_way(LAND, 0, 4, [0, 3, 4])
        self.check_way(LAND, 0, 5, [0, 3, 4, 5])
        self.check_way(LAND, 5, 0, [5, 4, 3, 0])
        self.check_way(LAND, 2, 6, [2, 3, 6])
        self.check_way(LAND, 6, 2, [6, 3, 2])

    def test_from_a_hill_to_itself(self):
        for place in range(7):
            self.check_way(LAND, place, place, [place])
        self.check_way([TOP], 0, 0, [0])
        self.check_way([0] * 200, 199, 199, [199])

    def test_of_several_ways_the_one_that_is_least_where_they_first_differ(self):
        # Two ways have as few steps: 1, 0, 5, 4 and 1, 2, 3, 4.
        self.check_way([4, 0, 4, 4, 2, 8], 1, 4, [1, 0, 5, 4])
        self.check_way([4, 0, 4, 4, 2, 8], 4, 1, [4, 3, 2, 1])
        self.check_way([8, 2, 2, 0, 7, 2, 6, 0, 9], 3, 7, [3, 0, 8, 7])
        self.check_way([8, 2, 2, 0, 7, 2, 6, 0, 9], 7, 3, [7, 6, 4, 3])

    def test_ways_that_lead_past_the_other_hill(self):
        self.check_way([0, 0, 0, 0, 0, 0, 1], 1, 5, [1, 6, 5])
        self.check_way([0, 0, 0, 0, 0, 0, 1], 5, 1, [5, 6, 1])
        self.check_way([1, 0, 0, 0, 0, 0, 0], 1, 5, [1, 0, 5])
        self.check_way([1, 0, 0, 0, 0, 0, 0], 5, 1, [5, 0, 1])

    def test_straight_lands(self):
        for name in NEIGHBOURS_ALONE:
            land = long_lands()[name]
            self.check_way(land, 0, 199, list(range(200)))
            self.check_way(land, 199, 0, list(range(199, -1, -1)))
            self.check_way(land, 50, 60, list(range(50, 61)))

    def test_lands_curved_upwards(self):
        for name in ALL_SEE_ALL:
            land = long_lands()[name]
            self.check_way(land, 0, 199, [0, 199])
            self.check_way(land, 150, 20, [150, 20])

    def test_small_lands_against_trying_all_ways(self):
        for land in small_lands():
            views = plain_views(land)
            with self.subTest(land=land):
                for a in range(len(land)):
                    for b in range(len(land)):
                        self.assertEqual(way(land, a, b), plain_way(views, a, b))

    def test_longer_lands_against_the_plain_ways(self):
        for name, land in long_lands(30).items():
            views = plain_views(land)
            with self.subTest(name=name):
                for b in range(30):
                    told = [way(land, a, b) for a in range(30)]
                    self.assertEqual(told, plain_ways_to(views, b))

    def test_lands_of_200_hills_against_the_plain_ways(self):
        for name in ("peak", "notch", "from edge to edge", "mixed low", "mixed high"):
            land = long_lands()[name]
            views = plain_views(land)
            for b in (0, 120):
                expected = plain_ways_to(views, b)
                with self.subTest(name=name, b=b):
                    for a in range(0, 200, 7):
                        self.assertEqual(way(land, a, b), expected[a])

    def test_each_hill_sees_the_next_and_the_steps_are_the_hops(self):
        land = long_lands()["mixed high"]
        for a, b in ((0, 199), (199, 0), (13, 14), (120, 30)):
            with self.subTest(a=a, b=b):
                told = way(land, a, b)
                self.assertEqual([told[0], told[-1]], [a, b])
                self.assertEqual(len(told) - 1, hops(land, a)[b])
                self.assertTrue(all(sees(land, one, other) for one, other in zip(told, told[1:])))


if __name__ == "__main__":
    unittest.main()
