"""How many are left, in all and of each length: promises 7 and 8."""

import math
import unittest

from leavings.counted import by_lengths, many_left
from samples import SMALL, all_left, long_rows, shaped_rows, short_rows


def many_by_doubling(row):
    """How many unlike rows are left, from the front on: each letter doubles them but for those it made before."""
    many = 1
    made = {}
    for letter in row:
        many, made[letter] = 2 * many - made.get(letter, 0), many
    return many


def lengths_by_last_letters(row):
    """How many unlike rows of each length are left, by how many there are that end with each letter."""
    ending = {}
    for letter in row:
        lengths = [0] * (len(row) + 1)
        lengths[1] = 1
        for counts in ending.values():
            for length, many in enumerate(counts[:-1]):
                lengths[length + 1] += many
        ending[letter] = lengths
    return [1] + [sum(counts[length] for counts in ending.values()) for length in range(1, len(row) + 1)]


class CountedTest(unittest.TestCase):
    def check_kinds(self, row):
        self.assertIs(type(many_left(row)), int)
        lengths = by_lengths(row)
        self.assertIs(type(lengths), list)
        for many in lengths:
            self.assertIs(type(many), int)

    def test_plain_ones(self):
        for row, many, lengths in [
            ("", 1, [1]), ("a", 2, [1, 1]), ("aa", 3, [1, 1, 1]), ("ab", 4, [1, 2, 1]), ("aba", 7, [1, 2, 3, 1]),
            ("abab", 12, [1, 2, 4, 4, 1]), ("abc", 8, [1, 3, 3, 1]), ("banana", 40, [1, 3, 6, 11, 12, 6, 1]),
        ]:
            self.assertEqual(many_left(row), many, row)
            self.assertEqual(by_lengths(row), lengths, row)
            self.check_kinds(row)

    def test_each_short_one(self):
        for row in short_rows("ab", 9) + short_rows("xyz", 6) + short_rows("abcde", 4):
            left = all_left(row)
            self.assertEqual(many_left(row), len(left), row)
            wanted = [len([one for one in left if len(one) == length]) for length in range(len(row) + 1)]
            self.assertEqual(by_lengths(row), wanted, row)

    def test_long_ones(self):
        for row in shaped_rows() + long_rows():
            self.check_kinds(row)
            lengths = by_lengths(row)
            self.assertEqual(many_left(row), many_by_doubling(row), row)
            self.assertEqual(lengths, lengths_by_last_letters(row), row)
            self.assertEqual(len(lengths), len(row) + 1, row)
            self.assertEqual(sum(lengths), many_left(row), row)
            self.assertEqual([lengths[0], lengths[-1]], [1, 1], row)

    def test_one_letter(self):
        for length in range(81):
            self.assertEqual(many_left("q" * length), length + 1)
            self.assertEqual(by_lengths("q" * length), [1] * (length + 1))

    def test_unlike_letters(self):
        for length in range(27):
            row = SMALL[:length]
            self.assertEqual(many_left(row), 2 ** length)
            self.assertEqual(by_lengths(row), [math.comb(length, chosen) for chosen in range(length + 1)])

    def test_mirrored_ones_have_as_many(self):
        for row in shaped_rows():
            self.assertEqual(many_left(row), many_left(row[::-1]), row)
            self.assertEqual(by_lengths(row), by_lengths(row[::-1]), row)

    def test_somewhat_beyond_eighty(self):
        for row in ["ab" * 60, SMALL * 5, "a" * 500]:
            self.assertEqual(many_left(row), many_by_doubling(row))
            self.assertEqual(sum(by_lengths(row)), many_left(row))

    def test_told_lists_are_the_askers_own(self):
        for row in ["", "a", "banana", "ab" * 40]:
            told = by_lengths(row)
            kept = list(told)
            again = by_lengths(row)
            self.assertIsNot(told, again)
            told[0] = -7
            told.append(99)
            self.assertEqual(again, kept)
            self.assertEqual(by_lengths(row), kept)
            self.assertEqual(many_left(row), sum(kept))


if __name__ == "__main__":
    unittest.main()
