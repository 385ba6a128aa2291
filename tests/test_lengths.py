"""The so-manieth of a length and the place of a row in its length: promises 10 and 11."""

import unittest

from leavings.counted import by_lengths
from leavings.errors import NoPlace, NoRow
from leavings.lengths import of_length_at, place_in_length
from leavings.manieth import place_of
from leavings.rows import is_left
from samples import (
    all_left, long_rows, shaped_rows, short_rows, some_numbers, thinned, wrong_places, wrong_rows,
)

REFUSING_ROWS = ["", "a", "banana", "abz" * 20, "ab" * 40]


class LengthsTest(unittest.TestCase):
    def test_plain_ones(self):
        self.assertEqual([of_length_at("aba", 2, place) for place in range(3)], ["aa", "ab", "ba"])
        self.assertEqual([place_in_length("aba", left) for left in ["aa", "ab", "ba"]], [0, 1, 2])
        self.assertEqual([of_length_at("aba", 1, place) for place in range(2)], ["a", "b"])
        self.assertEqual([of_length_at("aba", 0, 0), of_length_at("aba", 3, 0)], ["", "aba"])

    def test_row_of_none(self):
        self.assertEqual(of_length_at("", 0, 0), "")
        self.assertEqual(place_in_length("", ""), 0)

    def test_each_short_one(self):
        for row in short_rows("ab", 8) + short_rows("xyz", 5) + ["abcdeabc", "edcbaedc", "mississippi", "banana"]:
            left = all_left(row)
            for length in range(len(row) + 1):
                for place, one in enumerate([one for one in left if len(one) == length]):
                    self.assertEqual(of_length_at(row, length, place), one, (row, length, place))
                    self.assertEqual(place_in_length(row, one), place, (row, one))

    def test_long_ones(self):
        for row in shaped_rows() + long_rows():
            counts = by_lengths(row)
            for length in sorted({0, 1, 2, len(row) // 2, len(row) - 1, len(row)}):
                if 0 <= length <= len(row):
                    self.check_length(row, length, some_numbers(counts[length], 4))

    def check_length(self, row, length, numbers):
        ahead = None
        for place in numbers:
            left = of_length_at(row, length, place)
            self.assertIs(type(left), str)
            self.assertEqual(len(left), length)
            self.assertTrue(is_left(row, left), (row, length, place))
            told = place_in_length(row, left)
            self.assertIs(type(told), int)
            self.assertEqual(told, place, (row, length))
            if ahead is not None:
                self.assertLess(ahead, left, (row, length, place))
            ahead = left

    def test_rows_left_of_long_ones(self):
        for row in shaped_rows() + long_rows():
            for share in range(0, 101, 20):
                left = thinned(row, share)
                place = place_in_length(row, left)
                self.assertEqual(of_length_at(row, len(left), place), left, row)
                self.assertLessEqual(place, place_of(row, left))

    def test_neighbours_in_long_ones(self):
        for row in ["ab" * 40, "abcde" * 16, "a" * 80, "abcdefghijklmnopqrstuvwxyz" * 3 + "ab"]:
            for length, many in enumerate(by_lengths(row)):
                if length % 13 == 0:
                    numbers = range(many // 2, min(many // 2 + 10, many))
                    left = [of_length_at(row, length, place) for place in numbers]
                    self.assertEqual(left, sorted(set(left)))
                    self.assertEqual([place_in_length(row, one) for one in left], list(numbers))

    def test_no_place(self):
        for row in REFUSING_ROWS:
            counts = by_lengths(row)
            for length in sorted({0, len(row) // 2, len(row)}):
                for name, thing in wrong_places(counts[length]):
                    with self.subTest(row=row, length=length, place=name):
                        with self.assertRaises(NoPlace):
                            of_length_at(row, length, thing)

    def test_no_length(self):
        for row in REFUSING_ROWS:
            for name, thing in wrong_places(len(row) + 1):
                for place in [0, 1, -1]:
                    with self.subTest(row=row, length=name, place=place):
                        with self.assertRaises(NoPlace):
                            of_length_at(row, thing, place)

    def test_neither_length_nor_place(self):
        for name, length in wrong_places(7):
            for other_name, place in wrong_places(40):
                with self.subTest(length=name, place=other_name):
                    with self.assertRaises(NoPlace):
                        of_length_at("banana", length, place)

    def test_no_row(self):
        for row in REFUSING_ROWS:
            for name, thing in wrong_rows(row):
                with self.subTest(row=row, thing=name):
                    with self.assertRaises(NoRow):
                        place_in_length(row, thing)

    def test_each_short_one_that_is_not_left(self):
        for row in short_rows("ab", 4):
            left = all_left(row)
            for other in short_rows("abc", 5):
                if other not in left:
                    with self.assertRaises(NoRow):
                        place_in_length(row, other)

    def test_refused_again_and_again(self):
        for thing in [11, -1, True, False, None, "1", [], (), {}]:
            for _ in range(5):
                with self.assertRaises(NoPlace):
                    of_length_at("banana", 3, thing)
                with self.assertRaises(NoPlace):
                    of_length_at("banana", thing, 0)
                self.assertEqual(of_length_at("banana", 3, 10), "nna")
        for thing in ["nb", "bananas", "A", True, None, 1, [], (), {}, ["a"]]:
            for _ in range(5):
                with self.assertRaises(NoRow):
                    place_in_length("banana", thing)
                self.assertEqual(place_in_length("banana", "nna"), 10)

    def test_things_stay_as_they_were(self):
        things = ["a", ["b"], {"c": 1}]
        with self.assertRaises(NoPlace):
            of_length_at("abc", things, things)
        with self.assertRaises(NoPlace):
            of_length_at("abc", 1, things)
        with self.assertRaises(NoRow):
            place_in_length("abc", things)
        self.assertEqual(things, ["a", ["b"], {"c": 1}])


if __name__ == "__main__":
    unittest.main()
