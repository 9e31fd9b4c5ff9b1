"""Promises 2, 4, 5 and 6: who sees whom, the hider, the view and the sights."""

import unittest

from hillsight.looking import hider, sees, sights, view
from hillsight.slopes import slope, steeper
from tests.plain import TOP, long_lands, plain_hider, plain_sees, plain_sights, plain_views, small_lands

LAND = [3, 1, 2, 5, 4, 0, 6]
SIGHTS = [(0, 1), (0, 2), (0, 3), (1, 2), (1, 3), (2, 3), (3, 4), (3, 6), (4, 5), (4, 6), (5, 6)]


class PairTest(unittest.TestCase):
    """Checks sees and hider of one pair together, in both orders."""

    def check_seen(self, land, a, b):
        with self.subTest(a=a, b=b):
            self.assertIs(sees(land, a, b), True)
            self.assertIs(sees(land, b, a), True)
            self.assertIsNone(hider(land, a, b))
            self.assertIsNone(hider(land, b, a))

    def check_hidden(self, land, a, b, place):
        with self.subTest(a=a, b=b):
            self.assertIs(sees(land, a, b), False)
            self.assertIs(sees(land, b, a), False)
            self.assertEqual(hider(land, a, b), place)
            self.assertEqual(hider(land, b, a), place)


class SeesAndHiderTest(PairTest):
    def test_all_pairs_of_a_land(self):
        hidden = {(0, 4): 3, (0, 5): 3, (0, 6): 3, (1, 4): 3, (1, 5): 3, (1, 6): 3}
        hidden.update({(2, 4): 3, (2, 5): 3, (2, 6): 3, (3, 5): 4})
        for a, b in SIGHTS:
            self.check_seen(LAND, a, b)
        for (a, b), place in hidden.items():
            self.check_hidden(LAND, a, b, place)
        self.assertEqual(len(SIGHTS) + len(hidden), 21)

    def test_neighbours_see_each_other(self):
        for land in ([0, 0], [TOP, -TOP], [-TOP, TOP], [5, 9, 5, 9]):
            for a in range(len(land) - 1):
                self.check_seen(land, a, a + 1)

    def test_a_top_that_touches_the_line_hides(self):
        self.check_hidden([0, 1, 2], 0, 2, 1)
        self.check_hidden([4, 4, 4], 0, 2, 1)
        self.check_hidden([9, 6, 3], 0, 2, 1)
        self.check_hidden([1, -5, 3, 4], 0, 3, 2)

    def test_a_top_just_below_and_just_above_the_line(self):
        self.check_seen([0, 1, 4], 0, 2)
        self.check_hidden([0, 3, 4], 0, 2, 1)
        self.check_seen([9, 5, 3], 0, 2)
        self.check_hidden([9, 7, 3], 0, 2, 1)
        # The line passes at a third and at two thirds: no whole number lies on it.
        self.check_seen([0, 0, 0, 1], 0, 3)
        self.check_hidden([0, 0, 1, 1], 0, 3, 2)

    def test_of_equally_steep_hills_the_earliest_is_told(self):
        self.check_hidden([0, 1, 2, 3, 4], 0, 4, 1)
        self.check_hidden([0, -5, 2, 3, 1], 0, 4, 2)
        self.check_hidden([0, -5, 2, 1, 4, 0], 0, 5, 2)
        self.check_hidden([5, 5, 5, 5, 5, 5], 1, 5, 2)

    def test_the_hider_is_the_steepest_from_the_earlier_hill(self):
        # From the later hill, or by height alone, it would be the one at 2.
        self.check_hidden([0, 3, 4, 0], 0, 3, 1)
        self.check_hidden([10, 0, 7, 1], 0, 3, 2)

    def test_the_hider_need_not_be_the_first_that_hides(self):
        self.check_hidden([0, 1, 4, 9, 3], 0, 4, 3)
        self.check_hidden([0, 2, 6, 5, 4], 0, 4, 2)

    def test_hills_outside_of_the_pair_do_not_matter(self):
        self.check_seen([TOP, 0, -1, 0, TOP], 1, 3)
        self.check_hidden([-TOP, 0, 0, 0, -TOP], 1, 3, 2)

    def test_heights_at_the_bound(self):
        self.check_hidden([-TOP, 0, TOP], 0, 2, 1)
        self.check_seen([-TOP, -1, TOP], 0, 2)
        self.check_hidden([-TOP, 1, TOP], 0, 2, 1)
        self.check_hidden([TOP, 0, -TOP], 0, 2, 1)
        self.check_seen([TOP, -1, -TOP], 0, 2)
        self.check_seen([TOP, TOP - 1, TOP], 0, 2)
        self.check_hidden([TOP, TOP, TOP], 0, 2, 1)
        self.check_hidden([-TOP, -TOP, -TOP], 0, 2, 1)
        self.check_seen([TOP, -TOP, TOP], 0, 2)
        self.check_hidden([-TOP, TOP, -TOP], 0, 2, 1)

    def test_the_ends_of_a_land_of_200_hills(self):
        flat = [0] * 200
        self.check_hidden(flat, 0, 199, 1)
        self.check_seen([TOP] + [TOP - 1] * 198 + [TOP], 0, 199)
        flat[198] = 1
        self.check_hidden(flat, 0, 199, 198)


class ViewTest(unittest.TestCase):
    def test_views_of_a_land(self):
        views = [[1, 2, 3], [0, 2, 3], [0, 1, 3], [0, 1, 2, 4, 6], [3, 5, 6], [4, 6], [3, 4, 5]]
        self.assertEqual([view(LAND, a) for a in range(7)], views)

    def test_hills_at_the_ends_and_in_the_middle(self):
        land = [4, 1, 0, 1, 4]
        self.assertEqual(view(land, 0), [1, 2, 3, 4])
        self.assertEqual(view(land, 2), [0, 1, 3, 4])
        self.assertEqual(view(land, 4), [0, 1, 2, 3])

    def test_a_land_of_one_hill(self):
        self.assertEqual(view([8], 0), [])

    def test_a_land_of_two_hills(self):
        self.assertEqual(view([8, -8], 0), [1])
        self.assertEqual(view([8, -8], 1), [0])

    def test_a_straight_land(self):
        land = [5 * k for k in range(9)]
        self.assertEqual(view(land, 0), [1])
        self.assertEqual(view(land, 4), [3, 5])
        self.assertEqual(view(land, 8), [7])


class SightsTest(unittest.TestCase):
    def test_sights_of_a_land(self):
        self.assertEqual(sights(LAND), SIGHTS)

    def test_pairs_are_tuples_in_a_list(self):
        told = sights(LAND)
        self.assertIs(type(told), list)
        self.assertEqual({type(pair) for pair in told}, {tuple})

    def test_lands_of_one_and_two_hills(self):
        self.assertEqual(sights([5]), [])
        self.assertEqual(sights([5, 5]), [(0, 1)])

    def test_straight_lands_show_neighbours_alone(self):
        neighbours = [(a, a + 1) for a in range(199)]
        for name in ("level", "rising", "falling", "steepest rise", "dome", "deep dome"):
            with self.subTest(name=name):
                self.assertEqual(sights(long_lands()[name]), neighbours)

    def test_in_lands_curved_upwards_all_see_all(self):
        every = [(a, b) for a in range(200) for b in range(a + 1, 200)]
        for name in ("valley", "high valley"):
            with self.subTest(name=name):
                self.assertEqual(sights(long_lands()[name]), every)


class SteeperThanAllBetweenTest(unittest.TestCase):
    """Promise 4, by the package's own slopes."""

    def check_later_places(self, land):
        for a in range(len(land)):
            expected = []
            for b in range(a + 1, len(land)):
                climb = slope(land, a, b)
                if all(steeper(climb, slope(land, a, k)) for k in range(a + 1, b)):
                    expected.append(b)
            self.assertEqual([b for b in view(land, a) if b > a], expected)
            self.assertEqual([b for b in range(a + 1, len(land)) if sees(land, a, b)], expected)

    def test_later_places_seen_are_those_steeper_than_all_between(self):
        self.check_later_places(LAND)
        for name, land in long_lands(30).items():
            with self.subTest(name=name):
                self.check_later_places(land)


class PlainCheckTest(unittest.TestCase):
    def test_every_small_land(self):
        for land in small_lands():
            with self.subTest(land=land):
                self.assertEqual(sights(land), plain_sights(land))
                self.assertEqual([view(land, a) for a in range(len(land))], plain_views(land))

    def test_every_pair_of_small_lands(self):
        for land in small_lands():
            with self.subTest(land=land):
                for a in range(len(land)):
                    for b in range(len(land)):
                        if a != b:
                            self.assertIs(sees(land, a, b), plain_sees(land, a, b))
                            self.assertEqual(hider(land, a, b), plain_hider(land, a, b))

    def test_long_lands(self):
        for name, land in long_lands().items():
            with self.subTest(name=name):
                self.assertEqual(len(land), 200)
                self.assertEqual(sights(land), plain_sights(land))
                self.assertEqual([view(land, a) for a in range(200)], plain_views(land))

    def test_every_pair_of_longer_lands(self):
        for name, land in long_lands(30).items():
            with self.subTest(name=name):
                for a in range(30):
                    for b in range(a + 1, 30):
                        seen, place = plain_sees(land, a, b), plain_hider(land, a, b)
                        self.assertEqual([sees(land, a, b), sees(land, b, a)], [seen, seen])
                        self.assertEqual([hider(land, a, b), hider(land, b, a)], [place, place])
                        self.assertEqual(place is None, seen)


if __name__ == "__main__":
    unittest.main()
