"""The names and arguments of the interface, and the files in which they are defined."""

import inspect
import unittest

from hillsight import looking, slopes

LISTED = (
    (slopes, "slope", ["land", "a", "b"]),
    (slopes, "steeper", ["one", "other"]),
    (looking, "sees", ["land", "a", "b"]),
    (looking, "hider", ["land", "a", "b"]),
    (looking, "view", ["land", "a"]),
    (looking, "sights", ["land"]),
)


class InterfaceTest(unittest.TestCase):
    def test_each_function_is_defined_where_it_is_listed(self):
        for module, name, _ in LISTED:
            with self.subTest(name=name):
                self.assertTrue(inspect.isfunction(getattr(module, name)))
                self.assertEqual(getattr(module, name).__module__, module.__name__)

    def test_each_function_takes_the_listed_arguments(self):
        for module, name, arguments in LISTED:
            with self.subTest(name=name):
                taken = inspect.signature(getattr(module, name)).parameters
                self.assertEqual(list(taken), arguments)


if __name__ == "__main__":
    unittest.main()
