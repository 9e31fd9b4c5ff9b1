"""Promise 11: lands that change, and take their changes back."""

import unittest

from hillsight.errors import HillError, NoHill, NothingDone, TooHigh
from hillsight.lands import Land
from hillsight.looking import sights
from tests.plain import TOP, long_lands, plain_change, plain_sights, raised
from tests.refusing import NO_WHOLE_NUMBERS, RefusingTest

HEIGHTS = [3, 1, 2, 5, 4, 0, 6]
# Each is a place and a number by which the hill there becomes higher, one after the other.
LIFTS = (
    (2, 2), (2, 1), (3, -4), (0, 0), (6, -6), (1, 10 ** 17), (1, -(10 ** 17)), (0, TOP - 3), (0, -2 * TOP), (3, 1),
    (4, 0), (4, 0), (5, 7), (3, 3), (3, -3), (6, 1),
)


class ChangeTest(RefusingTest):
    def check_pair(self, told, expected):
        """The pair is a tuple of two lists of tuples, and what was expected."""
        self.assertIs(type(told), tuple)
        self.assertEqual([type(pairs) for pairs in told], [list, list])
        self.assertTrue(all(type(pair) is tuple for pairs in told for pair in pairs))
        self.assertEqual(told, expected)

    def check_lift(self, land, place, by):
        """One lift tells what changed, and changes that one height; the earlier heights are told."""
        ahead = land.told()
        behind = raised(ahead, place, by)
        self.check_pair(land.lift(place, by), plain_change(ahead, behind))
        self.assertEqual(land.told(), behind)
        self.assertEqual(land.seen(), plain_sights(behind))
        return ahead

    def check_back(self, land, earlier):
        """Taking back tells what changed by this, and the heights are the earlier ones again."""
        ahead = land.told()
        self.check_pair(land.back(), plain_change(ahead, earlier))
        self.assertEqual(land.told(), earlier)
        self.assertEqual(land.seen(), plain_sights(earlier))


class LiftTest(ChangeTest):
    def test_a_new_land(self):
        land = Land(HEIGHTS)
        self.assertEqual(land.told(), HEIGHTS)
        self.assertEqual(land.seen(), sights(HEIGHTS))

    def test_pairs_that_came_to_be_and_those_that_ceased(self):
        land = Land([0, 1, 0, 1, 0])
        self.check_pair(land.lift(2, 1), ([], [(1, 3)]))
        self.check_pair(land.lift(2, 2), ([(0, 2), (2, 4)], []))
        self.check_pair(land.lift(2, -5), ([(1, 3)], [(0, 2), (2, 4)]))
        self.assertEqual(land.told(), [0, 1, -2, 1, 0])
        self.assertEqual(land.seen(), [(0, 1), (1, 2), (1, 3), (2, 3), (3, 4)])

    def test_both_are_in_the_order_of_sights(self):
        came, ceased = [(0, 3), (0, 4), (1, 3), (1, 4)], [(0, 2), (2, 4)]
        land = Land([8, 6, 9, 6, 8, 7])
        self.check_pair(land.lift(2, -9), (came, ceased))
        self.check_pair(land.back(), (ceased, came))

    def test_lifts_one_after_the_other(self):
        land = Land(HEIGHTS)
        for place, by in LIFTS:
            with self.subTest(place=place, by=by):
                self.check_lift(land, place, by)

    def test_a_lift_by_nought_and_below_nought(self):
        land = Land(HEIGHTS)
        self.check_pair(land.lift(3, 0), ([], []))
        self.assertEqual(land.told(), HEIGHTS)
        self.check_lift(land, 3, -5)
        self.assertEqual(land.told(), [3, 1, 2, 0, 4, 0, 6])

    def test_land_of_one_hill(self):
        land = Land([7])
        self.check_pair(land.lift(0, -9), ([], []))
        self.assertEqual([land.told(), land.seen()], [[-2], []])
        self.check_pair(land.back(), ([], []))
        self.assertEqual(land.told(), [7])

    def test_lifts_to_the_bound(self):
        for start, by in ((0, TOP), (0, -TOP), (5, TOP - 5), (5, -TOP - 5), (TOP, -2 * TOP), (-TOP, 2 * TOP)):
            with self.subTest(start=start, by=by):
                land = Land([0, start, 0])
                self.check_back(land, self.check_lift(land, 1, by))

    def test_lands_of_200_hills(self):
        for name, heights in long_lands().items():
            with self.subTest(name=name):
                land = Land(heights)
                by = 50 if heights[100] <= 0 else -50
                self.check_back(land, self.check_lift(land, 100, by))


class BackTest(ChangeTest):
    def test_many_lifts_are_taken_back_one_by_one(self):
        land = Land(HEIGHTS)
        earlier = [self.check_lift(land, place, by) for place, by in LIFTS]
        for heights in reversed(earlier):
            self.check_back(land, heights)
        self.assertEqual(land.told(), HEIGHTS)
        self.check_refused(NothingDone, land.back)

    def test_200_lifts_of_a_land_of_200_hills(self):
        heights = long_lands()["mixed low"]
        land = Land(heights)
        lifts = [(place * 37 % 200, place % 7 - 3) for place in range(200)]
        told = [land.lift(place, by) for place, by in lifts]
        for came, ceased in reversed(told):
            self.check_pair(land.back(), (ceased, came))
        self.assertEqual([land.told(), land.seen()], [heights, sights(heights)])
        self.check_refused(NothingDone, land.back)

    def test_back_tells_the_pair_the_other_way_round(self):
        land = Land([0, 1, 0, 1, 0])
        land.lift(2, 1)
        land.lift(2, 2)
        land.lift(2, -5)
        self.check_pair(land.back(), ([(0, 2), (2, 4)], [(1, 3)]))
        self.check_pair(land.back(), ([], [(0, 2), (2, 4)]))
        self.check_pair(land.back(), ([(1, 3)], []))

    def test_lifts_by_nought_are_taken_back_too(self):
        land = Land(HEIGHTS)
        land.lift(0, 2)
        land.lift(1, 0)
        self.check_pair(land.back(), ([], []))
        self.assertEqual(land.told(), [5] + HEIGHTS[1:])
        self.check_back(land, HEIGHTS)
        self.check_refused(NothingDone, land.back)

    def test_a_lift_that_was_taken_back_is_not_taken_back_again(self):
        land = Land(HEIGHTS)
        land.lift(0, 1)
        land.lift(1, 10)
        land.back()
        land.lift(2, 100)
        self.assertEqual(land.told(), [4, 1, 102, 5, 4, 0, 6])
        self.check_back(land, [4, 1, 2, 5, 4, 0, 6])
        self.check_back(land, HEIGHTS)
        self.check_refused(NothingDone, land.back)

    def test_taking_back_is_no_lift(self):
        land = Land([1, 2])
        land.lift(0, 5)
        land.back()
        for _ in range(3):
            self.check_refused(NothingDone, land.back)
        self.assertEqual(land.told(), [1, 2])

    def test_nothing_done_on_a_new_land(self):
        land = Land(HEIGHTS)
        self.check_refused(NothingDone, land.back)
        self.assertEqual(land.told(), HEIGHTS)
        self.check_lift(land, 0, 1)
        self.check_back(land, HEIGHTS)


class RefusedLiftTest(ChangeTest):
    wrong_places = (-1, -7, 7, 200, 10 ** 5000, -(10 ** 5000)) + NO_WHOLE_NUMBERS
    too_much = (TOP - 4, TOP, 2 * TOP, -TOP - 6, -2 * TOP, 10 ** 5000, -(10 ** 5000))

    def check_refused_lift(self, error, place, by):
        """It is refused, and changes neither the heights nor what can be taken back."""
        land = Land(HEIGHTS)
        self.check_refused(error, land.lift, place, by)
        self.assertEqual([land.told(), land.seen()], [HEIGHTS, sights(HEIGHTS)])
        self.check_refused(NothingDone, land.back)
        land.lift(2, 9)
        self.check_refused(error, land.lift, place, by)
        self.assertEqual(land.told(), raised(HEIGHTS, 2, 9))
        self.check_back(land, HEIGHTS)
        self.check_refused(NothingDone, land.back)

    def test_places_of_no_hill(self):
        for number, place in enumerate(self.wrong_places):
            with self.subTest(number=number):
                self.check_refused_lift(NoHill, place, 1)
                self.check_refused_lift(NoHill, place, 0)

    def test_numbers_that_are_no_whole_numbers(self):
        for number, by in enumerate(NO_WHOLE_NUMBERS):
            with self.subTest(number=number):
                self.check_refused_lift(TooHigh, 0, by)
                self.check_refused_lift(TooHigh, 6, by)

    def test_heights_beyond_the_bound(self):
        # The hill at 3 is 5 high.
        for number, by in enumerate(self.too_much):
            with self.subTest(number=number):
                self.check_refused_lift(TooHigh, 3, by)

    def test_one_beyond_the_bound_either_way(self):
        land = Land([0, TOP, -TOP])
        for place, by in ((1, 1), (2, -1), (0, TOP + 1), (0, -TOP - 1)):
            with self.subTest(place=place, by=by):
                self.check_refused(TooHigh, land.lift, place, by)
        self.assertEqual(land.told(), [0, TOP, -TOP])
        land.lift(1, -2 * TOP)
        land.lift(2, 2 * TOP)
        self.check_refused(TooHigh, land.lift, 1, -1)
        self.check_refused(TooHigh, land.lift, 2, 1)
        self.assertEqual(land.told(), [0, -TOP, TOP])

    def test_the_bound_holds_for_heights_and_not_for_lifts(self):
        land = Land([-TOP])
        land.lift(0, 2 * TOP)
        self.assertEqual(land.told(), [TOP])

    def test_no_hill_comes_ahead_of_too_high(self):
        for number, place in enumerate(self.wrong_places):
            with self.subTest(number=number):
                for by in (None, True, "1", 1.0, 3 * TOP, -3 * TOP, 10 ** 5000):
                    self.check_refused_lift(NoHill, place, by)

    def test_all_are_hill_errors_and_value_errors(self):
        land = Land(HEIGHTS)
        for error in (HillError, ValueError):
            for call in (lambda: land.lift(7, 0), lambda: land.lift(0, TOP), land.back):
                with self.assertRaises(error):
                    call()


class OfItsOwnTest(ChangeTest):
    def test_two_lands_of_one_list(self):
        heights = list(HEIGHTS)
        one, other = Land(heights), Land(heights)
        one.lift(2, 4)
        self.assertEqual([one.told(), other.told(), heights], [raised(HEIGHTS, 2, 4), HEIGHTS, HEIGHTS])
        self.assertEqual(other.seen(), sights(HEIGHTS))
        self.check_refused(NothingDone, other.back)
        other.lift(3, -5)
        self.check_back(one, HEIGHTS)
        self.assertEqual(other.told(), raised(HEIGHTS, 3, -5))
        self.check_refused(NothingDone, one.back)
        self.check_back(other, HEIGHTS)

    def test_a_land_made_of_the_heights_of_another(self):
        one = Land(HEIGHTS)
        one.lift(0, 1)
        other = Land(one.told())
        other.lift(0, 1)
        self.assertEqual([one.told()[0], other.told()[0]], [4, 5])
        self.check_back(other, one.told())
        self.check_refused(NothingDone, other.back)

    def test_the_list_handed_in_may_change_later(self):
        heights = list(HEIGHTS)
        land = Land(heights)
        heights[0] = 99
        heights.append(7)
        self.assertEqual([land.told(), land.seen()], [HEIGHTS, sights(HEIGHTS)])
        self.check_back(land, self.check_lift(land, 1, 3))

    def test_told_lists_may_be_changed(self):
        land = Land(HEIGHTS)
        for told in (land.told, land.seen):
            first, second = told(), told()
            self.assertEqual(first, second)
            self.assertIsNot(first, second)
            first.clear()
            second.append("more")
        self.assertEqual([land.told(), land.seen()], [HEIGHTS, sights(HEIGHTS)])

    def test_told_pairs_may_be_changed(self):
        land = Land(HEIGHTS)
        for place, by in ((2, 9), (3, 0), (0, -4)):
            for pairs in land.lift(place, by):
                pairs.clear()
                pairs.append("more")
        lifted = [-1, 1, 11, 5, 4, 0, 6]
        self.assertEqual([land.told(), land.seen()], [lifted, sights(lifted)])
        earlier = raised(HEIGHTS, 2, 9)
        self.check_back(land, earlier)
        for pairs in land.back():
            pairs.append("more")
        self.assertEqual([land.told(), land.seen()], [earlier, sights(earlier)])
        self.check_back(land, HEIGHTS)

    def test_each_told_pair_is_of_two_different_new_lists(self):
        land = Land([4])
        lists = [*land.lift(0, 0), *land.lift(0, 0), *land.back(), *land.back()]
        self.assertEqual(lists, [[]] * 8)
        self.assertEqual(len({id(pairs) for pairs in lists}), 8)


if __name__ == "__main__":
    unittest.main()
