"""Which places are refused by what takes places of a land, and in which order they are looked at."""

import unittest

from hillsight.errors import NoHill, SameHill
from hillsight.looking import hider, sees, view
from hillsight.ridges import tower
from hillsight.signals import hops, way
from tests.refusing import NO_WHOLE_NUMBERS, RefusingTest

LAND = [3, 1, 2, 5]
# The last ones are longer than Python will write out in figures.
BEYOND = (-1, -4, -(10 ** 18), 4, 5, 200, 10 ** 18, 10 ** 5000, -(10 ** 5000))
WRONG = BEYOND + NO_WHOLE_NUMBERS
OF_ONE = (view, hops)
OF_TWO_HILLS = (sees, hider, tower)
OF_TWO_PLACES = OF_TWO_HILLS + (way,)


class Watched(int):
    """A whole number that writes down each comparison with it."""

    def __new__(cls, number, name, log):
        made = int.__new__(cls, number)
        made.name = name
        made.log = log
        return made

    def __lt__(self, other):
        self.log.append(self.name)
        return int(self) < other

    def __le__(self, other):
        self.log.append(self.name)
        return int(self) <= other

    def __gt__(self, other):
        self.log.append(self.name)
        return int(self) > other

    def __ge__(self, other):
        self.log.append(self.name)
        return int(self) >= other


class RefusalsTest(RefusingTest):
    def test_a_single_place_that_is_no_hill(self):
        for told in OF_ONE:
            for number, wrong in enumerate(WRONG):
                with self.subTest(told=told.__name__, number=number):
                    self.check_refused(NoHill, told, LAND, wrong)

    def test_a_that_is_no_hill(self):
        for told in OF_TWO_PLACES:
            for number, wrong in enumerate(WRONG):
                with self.subTest(told=told.__name__, number=number):
                    for b in (0, 1, 3):
                        self.check_refused(NoHill, told, LAND, wrong, b)

    def test_b_that_is_no_hill(self):
        for told in OF_TWO_PLACES:
            for number, wrong in enumerate(WRONG):
                with self.subTest(told=told.__name__, number=number):
                    for a in (0, 1, 3):
                        self.check_refused(NoHill, told, LAND, a, wrong)

    def test_both_are_no_hills(self):
        for told in OF_TWO_PLACES:
            for number, wrong in enumerate(WRONG):
                with self.subTest(told=told.__name__, number=number):
                    self.check_refused(NoHill, told, LAND, wrong, -1)
                    self.check_refused(NoHill, told, LAND, None, wrong)

    def test_the_same_hill_twice(self):
        for told in OF_TWO_HILLS:
            for place in range(4):
                with self.subTest(told=told.__name__, place=place):
                    self.check_refused(SameHill, told, LAND, place, place)
            self.check_refused(SameHill, told, [7], 0, 0)

    def test_no_hill_comes_ahead_of_same_hill(self):
        for told in OF_TWO_PLACES:
            for number, wrong in enumerate(WRONG):
                with self.subTest(told=told.__name__, number=number):
                    self.check_refused(NoHill, told, LAND, wrong, wrong)
            # To Python these are equal, but only one of each two is a place.
            for a, b in ((1, True), (True, 1), (0, False), (False, 0), (1, 1.0), (1.0, 1)):
                with self.subTest(told=told.__name__, a=a, b=b):
                    self.check_refused(NoHill, told, LAND, a, b)

    def test_a_is_looked_at_ahead_of_b(self):
        for told in OF_TWO_PLACES:
            for wrong in (-1, 4):
                with self.subTest(told=told.__name__, wrong=wrong):
                    log = []
                    a, b = Watched(wrong, "a", log), Watched(wrong, "b", log)
                    self.check_refused(NoHill, told, LAND, a, b)
                    self.assertEqual(set(log), {"a"})

    def test_the_last_place_is_that_of_the_land_handed_in(self):
        for told in OF_ONE:
            with self.subTest(told=told.__name__):
                self.check_refused(NoHill, told, [7], 1)
                self.check_refused(NoHill, told, [0] * 200, 200)
        for told in OF_TWO_PLACES:
            with self.subTest(told=told.__name__):
                self.check_refused(NoHill, told, [7], 0, 1)
                self.check_refused(NoHill, told, [7, 7], 2, 0)
                self.check_refused(NoHill, told, [0] * 200, 199, 200)
        self.assertEqual(view([0] * 200, 199), [198])
        self.assertIs(sees([0] * 200, 199, 198), True)


if __name__ == "__main__":
    unittest.main()
