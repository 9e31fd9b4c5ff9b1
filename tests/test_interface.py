"""The names and arguments of the interface, and the files in which they are defined."""

import inspect
import unittest

from hillsight import lands, looking, notes, ridges, signals, slopes

LISTED = (
    (slopes, "slope", ["land", "a", "b"]),
    (slopes, "steeper", ["one", "other"]),
    (looking, "sees", ["land", "a", "b"]),
    (looking, "hider", ["land", "a", "b"]),
    (looking, "view", ["land", "a"]),
    (looking, "sights", ["land"]),
    (ridges, "ridge", ["land"]),
    (ridges, "tower", ["land", "a", "b"]),
    (signals, "hops", ["land", "a"]),
    (signals, "way", ["land", "a", "b"]),
    (lands, "checked", ["land"]),
    (notes, "shown", ["land"]),
    (notes, "read", ["line"]),
)
METHODS = (("told", []), ("seen", []), ("lift", ["place", "by"]), ("back", []))


class InterfaceTest(unittest.TestCase):
    def check_arguments(self, told, arguments):
        self.assertEqual(list(inspect.signature(told).parameters), arguments)

    def test_each_function_is_defined_where_it_is_listed(self):
        for module, name, _ in LISTED:
            with self.subTest(name=name):
                self.assertTrue(inspect.isfunction(getattr(module, name)))
                self.assertEqual(getattr(module, name).__module__, module.__name__)

    def test_each_function_takes_the_listed_arguments(self):
        for module, name, arguments in LISTED:
            with self.subTest(name=name):
                self.check_arguments(getattr(module, name), arguments)

    def test_the_class_is_defined_where_it_is_listed(self):
        self.assertTrue(inspect.isclass(lands.Land))
        self.assertEqual(lands.Land.__module__, "hillsight.lands")
        self.check_arguments(lands.Land, ["heights"])

    def test_each_method_is_defined_in_its_class_with_the_listed_arguments(self):
        for name, arguments in METHODS:
            with self.subTest(name=name):
                self.assertTrue(inspect.isfunction(vars(lands.Land)[name]))
                self.check_arguments(getattr(lands.Land([0]), name), arguments)

    def test_the_arguments_may_be_named(self):
        land = lands.Land(heights=[0, 1, 0])
        self.assertEqual(land.lift(place=1, by=-2), ([(0, 2)], []))
        self.assertEqual(ridges.tower(land=[0, 1, 2], a=0, b=2), 1)
        self.assertEqual(signals.way(land=[0, 1, 2], a=0, b=2), [0, 1, 2])
        self.assertEqual(signals.hops(land=[0, 1, 2], a=0), [0, 1, 2])
        self.assertEqual(ridges.ridge(land=[0, 1, 2]), [0, 1, 2])
        self.assertEqual(notes.read(line=notes.shown(land=[0, 1])), lands.checked(land=[0, 1]))


if __name__ == "__main__":
    unittest.main()
