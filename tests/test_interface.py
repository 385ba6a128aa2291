"""The interface: that all it lists is there under its name, with as many arguments, handed in by their places."""

import importlib
import inspect
import unittest

from leavings.errors import LeaveError

FUNCTIONS = {
    "rows": {"is_row": 1, "is_left": 2, "first_places": 2, "last_places": 2},
    "nexts": {"next_at": 3},
    "counted": {"many_left": 1, "by_lengths": 1},
    "manieth": {"left_at": 2, "place_of": 2},
    "lengths": {"of_length_at": 3, "place_in_length": 2},
    "ways": {"many_ways": 2, "way_at": 3},
    "common": {"many_common": 2, "longest_common": 2, "many_longest": 2},
    "shortest": {"all_left_to": 2, "shortest_not_left": 2, "many_shortest": 2},
    "parted": {"parts": 2},
    "arches": {"arches": 2, "shows": 3},
    "notes": {"show_list": 1, "read_list": 1},
}

# For each class how many arguments it is made of, and its methods with how many they take.
CLASSES = {
    ("nexts", "Nexts"): (1, {"at": 2}),
    ("growing", "Growing"): (0, {"put": 1, "undo": 0, "row": 0, "many": 0, "lengths": 0, "has": 1}),
    ("desk", "Desk"): (0, {"say": 1}),
}

ERRORS = ["NoPlace", "NoRow", "NoLetters", "NoLetter", "NoText", "NoCommand"]


def module(name):
    return importlib.import_module("leavings." + name)


def many_arguments(function):
    return len(inspect.signature(function).parameters)


class InterfaceTest(unittest.TestCase):
    def test_functions(self):
        for name, functions in FUNCTIONS.items():
            for function, many in functions.items():
                self.assertEqual(many_arguments(getattr(module(name), function)), many, function)

    def test_classes(self):
        for (name, kind), (many, methods) in CLASSES.items():
            listed = getattr(module(name), kind)
            self.assertEqual(many_arguments(listed), many, kind)
            for method, takes in methods.items():
                self.assertIn(method, vars(listed), kind)
                self.assertEqual(many_arguments(vars(listed)[method]), takes + 1, (kind, method))

    def test_errors(self):
        errors = [getattr(module("errors"), name) for name in ERRORS]
        self.assertTrue(issubclass(LeaveError, ValueError))
        for one in errors:
            self.assertTrue(issubclass(one, LeaveError))
            self.assertEqual([other for other in errors if issubclass(one, other)], [one])


if __name__ == "__main__":
    unittest.main()
