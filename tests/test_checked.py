"""Promise 1: what is a land, by checked and by Land."""

import unittest

from hillsight.errors import HillError, NoLand
from hillsight.lands import Land, checked
from tests.plain import TOP, long_lands
from tests.refusing import NO_WHOLE_NUMBERS, RefusingTest

LANDS = (
    [0], [-3], [TOP], [-TOP], [3, 1, 2], [0] * 199, [0] * 200, [TOP] * 200, [-TOP] * 200, list(range(-100, 100)),
)
NO_LISTS = (
    None, True, False, 0, 1, 200, -1, 1.5, "", "1", "1 2", "[1]", b"", b"12", (), (1,), (1, 2), {}, {1: 2}, {1, 2},
    frozenset({1}), range(3), iter([1]), bytearray(b"1"), (height for height in [1]), list, object(),
)
# The last ones are longer than Python will write out in figures.
BEYOND = (TOP + 1, -TOP - 1, 2 * TOP, 10 ** 19, -(10 ** 19), 10 ** 5000, -(10 ** 5000))


class CheckedTest(RefusingTest):
    def test_lands_are_told_or_kept(self):
        for number, land in enumerate(LANDS + tuple(long_lands().values())):
            with self.subTest(number=number):
                self.assertEqual(checked(land), land)
                self.assertEqual(Land(land).told(), land)

    def test_what_is_told_is_a_list(self):
        self.assertIs(type(checked([1, 2])), list)
        self.assertIs(type(Land([1, 2]).told()), list)

    def check_no_land(self, thing):
        self.check_refused(NoLand, checked, thing)
        self.check_refused(NoLand, Land, thing)

    def test_what_is_no_list(self):
        for number, thing in enumerate(NO_LISTS):
            with self.subTest(number=number):
                self.check_no_land(thing)

    def test_a_list_of_no_hill_or_of_too_many(self):
        for land in ([], [0] * 201, [TOP] * 201, [0] * 1000):
            with self.subTest(many=len(land)):
                self.check_no_land(land)

    def test_heights_that_are_no_whole_numbers(self):
        for number, wrong in enumerate(NO_WHOLE_NUMBERS):
            with self.subTest(number=number):
                for land in ([wrong], [wrong, 1, 2], [1, wrong, 2], [1, 2, wrong], [0] * 199 + [wrong]):
                    self.check_no_land(land)

    def test_heights_beyond_the_bound(self):
        for number, wrong in enumerate(BEYOND):
            with self.subTest(number=number):
                for land in ([wrong], [wrong, 1, 2], [1, wrong, 2], [1, 2, wrong], [0] * 199 + [wrong]):
                    self.check_no_land(land)

    def test_it_is_a_hill_error_and_a_value_error(self):
        for told in (checked, Land):
            for error in (HillError, ValueError):
                with self.assertRaises(error):
                    told([])

    def test_what_is_refused_stays_as_it_was(self):
        for land in ([True, 1], [1, TOP + 1], [1, "2"], [0] * 201):
            before = list(land)
            self.check_no_land(land)
            self.assertEqual(land, before)
            self.assertEqual([type(height) for height in land], [type(height) for height in before])

    def test_a_new_list_is_told_each_time(self):
        land = [3, 1, 2]
        first, second = checked(land), checked(land)
        self.assertIsNot(first, land)
        self.assertIsNot(first, second)
        first.append(9)
        second[0] = 9
        self.assertEqual(land, [3, 1, 2])
        self.assertEqual(checked(land), [3, 1, 2])


if __name__ == "__main__":
    unittest.main()
