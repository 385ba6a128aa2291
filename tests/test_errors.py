"""The refusals: each under LeaveError and ValueError, none under another one."""

import unittest

from leavings import errors
from leavings.errors import LeaveError, NoCommand, NoLetter, NoLetters, NoPlace, NoRow, NoText

KINDS = [NoPlace, NoRow, NoLetters, NoLetter, NoText, NoCommand]


class ErrorsTest(unittest.TestCase):
    def test_leave_error_is_a_value_error(self):
        self.assertTrue(issubclass(LeaveError, ValueError))
        self.assertIsNot(LeaveError, ValueError)

    def test_each_stands_under_leave_error(self):
        for kind in KINDS:
            with self.subTest(kind=kind.__name__):
                self.assertTrue(issubclass(kind, LeaveError))
                self.assertTrue(issubclass(kind, ValueError))
                self.assertFalse(issubclass(LeaveError, kind))

    def test_none_stands_under_another_one(self):
        for one in KINDS:
            for other in KINDS:
                with self.subTest(one=one.__name__, other=other.__name__):
                    self.assertEqual(issubclass(one, other), KINDS.index(one) == KINDS.index(other))

    def test_names(self):
        for kind in KINDS + [LeaveError]:
            self.assertIs(getattr(errors, kind.__name__), kind)
            self.assertEqual(kind.__module__, "leavings.errors")

    def test_raised_and_caught_by_name(self):
        for kind in KINDS:
            for wider in [kind, LeaveError, ValueError]:
                with self.assertRaises(wider):
                    raise kind("why")


if __name__ == "__main__":
    unittest.main()
