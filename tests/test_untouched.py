"""Promise 1 as far as it holds of every function: nothing handed in is changed or told or kept."""

import unittest

from hillsight.lands import Land, checked
from hillsight.looking import hider, sees, sights, view
from hillsight.notes import read, shown
from hillsight.ridges import ridge, tower
from hillsight.signals import hops, way
from hillsight.slopes import slope, steeper
from tests.plain import long_lands


def lists_told(land):
    """Calls, each of which tells a new list."""
    kept = Land(land)
    line = shown(land)
    calls = [
        lambda: sights(land), lambda: ridge(land), lambda: checked(land), lambda: read(line), kept.told, kept.seen,
    ]
    for place in range(len(land)):
        calls.append(lambda a=place: view(land, a))
        calls.append(lambda a=place: hops(land, a))
        calls.append(lambda a=place: way(land, a, 0))
    return calls


class UntouchedTest(unittest.TestCase):
    def test_the_land_stays_as_it_was(self):
        for name, land in long_lands(20).items():
            with self.subTest(name=name):
                before = list(land)
                sights(land)
                ridge(land)
                shown(land)
                checked(land)
                Land(land).lift(3, 0)
                for a in range(20):
                    view(land, a)
                    hops(land, a)
                    for b in range(a + 1, 20):
                        slope(land, a, b)
                        sees(land, a, b)
                        hider(land, b, a)
                        tower(land, a, b)
                        way(land, b, a)
                self.assertEqual(land, before)

    def test_a_land_that_is_kept_changes_by_lifts_alone(self):
        land = Land([3, 1, 2, 5])
        heights = land.told()
        for call in (sights, ridge, shown, checked, Land):
            call(heights)
        heights[1] = 9
        land.seen()
        self.assertEqual(land.told(), [3, 1, 2, 5])

    def test_the_land_stays_as_it_was_where_a_call_is_refused(self):
        land = [3, 1, 2]
        refused = (
            (sees, (0, 3)), (hider, (1, 1)), (view, (-1,)), (tower, (2, 2)), (hops, (3,)), (way, (0, -1)),
        )
        for told, places in refused:
            with self.assertRaises(ValueError):
                told(land, *places)
        self.assertEqual(land, [3, 1, 2])

    def test_slopes_stay_as_they_were(self):
        one, other = [1, 2], [3, 4]
        steeper(one, other)
        self.assertEqual([one, other], [[1, 2], [3, 4]])

    def test_two_calls_tell_two_lists(self):
        for land in ([3, 1, 2, 5], [1, 0], [9], [1, 2, 0]):
            for number, call in enumerate(lists_told(land)):
                with self.subTest(land=land, number=number):
                    first, second = call(), call()
                    self.assertEqual(first, second)
                    self.assertIsNot(first, second)
                    self.assertIsNot(first, land)

    def test_changing_a_told_list_changes_nothing_else(self):
        land = [3, 1, 2, 5]
        for number, call in enumerate(lists_told(land)):
            with self.subTest(number=number):
                first = call()
                expected = list(first)
                first.append("more")
                del first[0]
                self.assertEqual(call(), expected)
                self.assertEqual(land, [3, 1, 2, 5])

    def test_the_answer_follows_a_changed_land(self):
        land = [0, 1, 0]
        self.assertEqual([sights(land), view(land, 0)], [[(0, 1), (1, 2)], [1]])
        self.assertEqual([ridge(land), tower(land, 0, 2)], [[0, 1, 2], 3])
        self.assertEqual([hops(land, 0), way(land, 0, 2)], [[0, 1, 2], [0, 1, 2]])
        self.assertEqual([shown(land), checked(land)], ["0 1 0", [0, 1, 0]])
        land[1] = -1
        self.assertEqual([sights(land), view(land, 0)], [[(0, 1), (0, 2), (1, 2)], [1, 2]])
        self.assertEqual([ridge(land), tower(land, 0, 2)], [[0, 2], 0])
        self.assertEqual([hops(land, 0), way(land, 0, 2)], [[0, 1, 1], [0, 2]])
        self.assertEqual([shown(land), checked(land)], ["0 -1 0", [0, -1, 0]])
        self.assertIs(sees(land, 0, 2), True)


if __name__ == "__main__":
    unittest.main()
