"""The so-manieth of all and the place of a row: promise 9."""

import unittest

from leavings.counted import many_left
from leavings.errors import NoPlace, NoRow
from leavings.manieth import left_at, place_of
from leavings.rows import is_left
from samples import (
    all_left, long_rows, shaped_rows, short_rows, some_numbers, thinned, wrong_places, wrong_rows,
)

REFUSING_ROWS = ["", "a", "banana", "abz" * 20, "ab" * 40]


class ManiethTest(unittest.TestCase):
    def test_plain_ones(self):
        wanted = ["", "a", "aa", "ab", "aba", "b", "ba"]
        self.assertEqual([left_at("aba", place) for place in range(7)], wanted)
        self.assertEqual([place_of("aba", left) for left in wanted], [0, 1, 2, 3, 4, 5, 6])

    def test_row_of_none(self):
        self.assertEqual(left_at("", 0), "")
        self.assertEqual(place_of("", ""), 0)

    def test_each_short_one(self):
        for row in short_rows("ab", 8) + short_rows("xyz", 5) + ["abcdeabc", "edcbaedc", "mississippi", "banana"]:
            for place, left in enumerate(all_left(row)):
                self.assertEqual(left_at(row, place), left, (row, place))
                self.assertEqual(place_of(row, left), place, (row, left))

    def test_long_ones(self):
        for row in shaped_rows() + long_rows():
            ahead = None
            for place in some_numbers(many_left(row), 40):
                left = left_at(row, place)
                self.assertIs(type(left), str)
                self.assertTrue(is_left(row, left), (row, place))
                told = place_of(row, left)
                self.assertIs(type(told), int)
                self.assertEqual(told, place, row)
                if ahead is not None:
                    self.assertLess(ahead, left, (row, place))
                ahead = left

    def test_rows_left_of_long_ones(self):
        for row in shaped_rows() + long_rows():
            left = sorted({thinned(row, share) for share in range(0, 101, 10)} | {"", row, row[:1], row[-1:]})
            places = [place_of(row, one) for one in left]
            self.assertEqual(places, sorted(set(places)), row)
            self.assertEqual([left_at(row, place) for place in places], left)

    def test_neighbours_in_long_ones(self):
        for row in ["ab" * 40, "abcde" * 16, "a" * 80, "abcdefghijklmnopqrstuvwxyz" * 3 + "ab"]:
            many = many_left(row)
            for start in [0, many // 3, many // 2, many - 60]:
                numbers = range(max(start, 0), min(start + 60, many))
                left = [left_at(row, place) for place in numbers]
                self.assertEqual(left, sorted(set(left)))
                self.assertEqual([place_of(row, one) for one in left], list(numbers))

    def test_ends(self):
        for row in shaped_rows():
            self.assertEqual(left_at(row, 0), "")
            last = left_at(row, many_left(row) - 1)
            # The greatest row takes the greatest letter there is, again and again.
            wanted = [letter for at, letter in enumerate(row) if letter == max(row[at:])]
            self.assertEqual(last, "".join(wanted), row)

    def test_no_place(self):
        for row in REFUSING_ROWS:
            many = many_left(row)
            for name, thing in wrong_places(many):
                with self.subTest(row=row, thing=name):
                    with self.assertRaises(NoPlace):
                        left_at(row, thing)

    def test_no_row(self):
        for row in REFUSING_ROWS:
            for name, thing in wrong_rows(row):
                with self.subTest(row=row, thing=name):
                    if isinstance(thing, str) and is_left(row, thing):
                        self.fail("a row that is left stands among the wrong ones")
                    with self.assertRaises(NoRow):
                        place_of(row, thing)

    def test_each_short_one_that_is_not_left(self):
        for row in short_rows("ab", 4):
            left = all_left(row)
            for other in short_rows("abc", 5):
                if other not in left:
                    with self.assertRaises(NoRow):
                        place_of(row, other)

    def test_refused_again_and_again(self):
        for thing in [40, -1, True, False, None, "1", [], (), {}]:
            for _ in range(5):
                with self.assertRaises(NoPlace):
                    left_at("banana", thing)
                self.assertEqual(left_at("banana", 39), "nna")
        for thing in ["nb", "bananas", "A", True, None, 1, [], (), {}, ["a"]]:
            for _ in range(5):
                with self.assertRaises(NoRow):
                    place_of("banana", thing)
                self.assertEqual(place_of("banana", "nna"), 39)

    def test_things_stay_as_they_were(self):
        things = ["a", ["b"], {"c": 1}]
        with self.assertRaises(NoPlace):
            left_at("abc", things)
        with self.assertRaises(NoRow):
            place_of("abc", things)
        self.assertEqual(things, ["a", ["b"], {"c": 1}])


if __name__ == "__main__":
    unittest.main()
