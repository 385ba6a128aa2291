"""What parts two rows: promises 19 and 20."""

import itertools
import unittest

from leavings.common import many_common
from leavings.counted import many_left
from leavings.nexts import next_at
from leavings.parted import parts
from leavings.rows import is_left
from samples import SMALL, all_left, row_pairs, shaped_rows, short_rows, thinned


def parted_level_by_level(one, other):
    """The first of the shortest that part the two rows, by going through the beginnings, shorter ones first."""
    letters = sorted(set(one))
    level = [("", 0, 0)]
    seen = {(0, 0)}
    while level:
        longer = []
        for start, place, spot in level:
            for letter in letters:
                at = next_at(one, place, letter)
                met = next_at(other, spot, letter)
                if at is not None and met is None:
                    return first_of_level(level, letters, one, other)
                if at is not None and (at + 1, met + 1) not in seen:
                    seen.add((at + 1, met + 1))
                    longer.append((start + letter, at + 1, met + 1))
        level = longer
    return None


def first_of_level(level, letters, one, other):
    found = []
    for start, place, spot in level:
        for letter in letters:
            if next_at(one, place, letter) is not None and next_at(other, spot, letter) is None:
                found.append(start + letter)
    return min(found)


def brute(one_left, other_left):
    found = [row for row in one_left if row not in other_left]
    return min(found, key=lambda row: (len(row), row), default=None)


class PartedTest(unittest.TestCase):
    def test_plain_ones(self):
        self.assertEqual(parts("aba", "ab"), "aa")
        self.assertIsNone(parts("ab", "aba"))
        self.assertEqual(parts("ab", "ba"), "ab")
        self.assertEqual(parts("ba", "ab"), "ba")
        self.assertEqual(parts("banana", "bandana"), None)
        self.assertEqual(parts("bandana", "banana"), "d")

    def test_row_of_none(self):
        for row in shaped_rows():
            self.assertIsNone(parts("", row))
            self.assertEqual(parts(row, ""), min(row) if row else None)

    def test_each_short_one(self):
        tried = list(itertools.product(short_rows("ab", 6), short_rows("ab", 6)))
        tried += list(itertools.product(short_rows("abc", 4), short_rows("abc", 4)))
        words = ["mississippi", "misspelling", "banana", "bandana", "abcdeabcde", "edcbaedcba", "aabbccddee", "aabbaabbaa"]
        tried += list(itertools.product(words, words))
        left = {row: all_left(row) for pair in tried for row in pair}
        apart = {row: set(left[row]) for row in left}
        for one, other in tried:
            self.assertEqual(parts(one, other), brute(left[one], apart[other]), (one, other))

    def test_long_ones(self):
        for one, other in row_pairs():
            parted = parts(one, other)
            self.assertEqual(parted, parted_level_by_level(one, other), (one, other))
            self.assertEqual(parted is None, is_left(other, one), (one, other))
            if parted is not None:
                self.check_parted(one, other, parted)

    def check_parted(self, one, other, parted):
        self.assertIs(type(parted), str)
        self.assertTrue(is_left(one, parted), (one, other, parted))
        self.assertFalse(is_left(other, parted), (one, other, parted))
        for at in range(len(parted)):
            self.assertTrue(is_left(other, parted[:at] + parted[at + 1:]), (one, other, parted))

    def test_none_just_where_the_first_is_left_of_the_second(self):
        for row in shaped_rows():
            for share in [10, 50, 90]:
                left = thinned(row, share)
                self.assertIsNone(parts(left, row))
                self.assertEqual(parts(row, left) is None, left == row, (row, left))
            self.assertIsNone(parts(row, row))

    def test_a_letter_less(self):
        for row in shaped_rows()[::5]:
            for at in range(0, len(row), 7):
                less = row[:at] + row[at + 1:]
                parted = parts(row, less)
                self.assertIsNone(parts(less, row))
                self.check_parted(row, less, parted)
                self.assertEqual(parted, parted_level_by_level(row, less))

    def test_unlike_letters(self):
        for one, other in [("ba", "c"), ("zyx" * 20, "abc" * 20), (SMALL[13:] * 6, SMALL[:13] * 6), ("b" * 80, "a" * 80)]:
            self.assertEqual(parts(one, other), min(one))
            self.assertEqual(parts(other, one), min(other))

    def test_one_letter(self):
        for length in range(80):
            self.assertEqual(parts("q" * 80, "q" * length), "q" * (length + 1))
            self.assertIsNone(parts("q" * length, "q" * 80))

    def test_one_thing_with_what_is_counted(self):
        for one, other in row_pairs():
            # All that is left of the first is left of both just where there are as many.
            self.assertEqual(parts(one, other) is None, many_common(one, other) == many_left(one), (one, other))

    def test_told_alike_again(self):
        for one, other in row_pairs()[::9]:
            self.assertEqual([parts(one, other) for _ in range(3)], [parts(one, other)] * 3)


if __name__ == "__main__":
    unittest.main()
