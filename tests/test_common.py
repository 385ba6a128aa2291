"""What two rows have in common: promises 14 and 15."""

import itertools
import unittest

from leavings.common import longest_common, many_common, many_longest
from leavings.counted import many_left
from leavings.manieth import left_at, place_of
from leavings.rows import first_places, is_left
from samples import SMALL, all_left, row_pairs, shaped_rows, short_rows, thinned

# Greater than any count of rows that are left of 80 letters.
UNIT = 1 << 90


def counts_from_the_front(one, other):
    """How many common rows of each length there are, by counting those of each two beginnings.

    The counts of all lengths are held in one number, a digit of base UNIT for each length.
    """
    counts = [[1] * (len(other) + 1)]
    for at, letter in enumerate(one):
        before = one.rfind(letter, 0, at)
        line = []
        for end in range(len(other) + 1):
            met = other.rfind(letter, 0, end)
            count = counts[at][end]
            if met >= 0:
                count += UNIT * counts[at][met]
                if before >= 0:
                    count -= UNIT * counts[before][met]
            line.append(count)
        counts.append(line)
    return digits(counts[-1][-1])


def digits(number):
    found = []
    while number:
        found.append(number % UNIT)
        number //= UNIT
    return found


def common_lengths(one, other):
    """How long the longest common row of the ends from each two places on is."""
    lengths = [[0] * (len(other) + 1) for _ in range(len(one) + 1)]
    for at in reversed(range(len(one))):
        for spot in reversed(range(len(other))):
            if one[at] == other[spot]:
                lengths[at][spot] = 1 + lengths[at + 1][spot + 1]
            else:
                lengths[at][spot] = max(lengths[at + 1][spot], lengths[at][spot + 1])
    return lengths


def lesser_ones(row, letters):
    """Pairs of a beginning that stands ahead of the row, and how many letters are missing to the row's length."""
    return [
        (row[:at] + letter, len(row) - at - 1)
        for at in range(len(row)) for letter in letters if letter < row[at]
    ]


class CommonTest(unittest.TestCase):
    def test_plain_ones(self):
        # Common are "", "a", "ab", "b" and "ba".
        self.assertEqual(many_common("aba", "bab"), 5)
        self.assertEqual(longest_common("aba", "bab"), "ab")
        self.assertEqual(many_longest("aba", "bab"), 2)
        # "aana" and "bana".
        self.assertEqual(longest_common("banana", "cabana"), "aana")
        self.assertEqual(many_longest("banana", "cabana"), 2)

    def test_row_of_none(self):
        for row in ["", "a", "banana", "ab" * 40]:
            for one, other in [(row, ""), ("", row)]:
                self.assertEqual(many_common(one, other), 1)
                self.assertEqual(longest_common(one, other), "")
                self.assertEqual(many_longest(one, other), 1)

    def test_each_short_one(self):
        tried = list(itertools.product(short_rows("ab", 5), short_rows("ab", 5)))
        tried += list(itertools.product(short_rows("abc", 3), short_rows("abd", 3)))
        words = ["mississippi", "misspelling", "banana", "bandana", "abcdeabcde", "edcbaedcba", "aabbccddee", "zyxzyxzyx"]
        tried += list(itertools.product(words, words))
        left = {row: set(all_left(row)) for pair in tried for row in pair}
        for one, other in tried:
            wanted = left[one] & left[other]
            longest = max(len(row) for row in wanted)
            as_long = sorted(row for row in wanted if len(row) == longest)
            self.assertEqual(many_common(one, other), len(wanted), (one, other))
            self.assertEqual(longest_common(one, other), as_long[0], (one, other))
            self.assertEqual(many_longest(one, other), len(as_long), (one, other))

    def test_how_many_of_long_ones(self):
        for one, other in row_pairs():
            counts = counts_from_the_front(one, other)
            many = many_common(one, other)
            longest = many_longest(one, other)
            self.assertIs(type(many), int)
            self.assertIs(type(longest), int)
            self.assertEqual(many, sum(counts), (one, other))
            self.assertEqual(longest, counts[-1], (one, other))
            self.assertEqual(len(longest_common(one, other)), len(counts) - 1, (one, other))

    def test_longest_of_long_ones(self):
        for one, other in row_pairs():
            longest = longest_common(one, other)
            self.assertIs(type(longest), str)
            self.assertTrue(is_left(one, longest) and is_left(other, longest), (one, other))
            for at in range(len(longest) + 1):
                for letter in sorted(set(one)):
                    more = longest[:at] + letter + longest[at:]
                    self.assertFalse(is_left(one, more) and is_left(other, more), (one, other, more))

    def test_first_of_the_longest(self):
        for one, other in row_pairs():
            lengths = common_lengths(one, other)
            longest = longest_common(one, other)
            self.assertEqual(len(longest), lengths[0][0], (one, other))
            for start, missing in lesser_ones(longest, sorted(set(one))):
                if is_left(one, start) and is_left(other, start):
                    at = first_places(one, start)[-1] + 1
                    spot = first_places(other, start)[-1] + 1
                    self.assertLess(lengths[at][spot], missing, (one, other, start))

    def test_either_way_round(self):
        for one, other in row_pairs():
            self.assertEqual(many_common(one, other), many_common(other, one))
            self.assertEqual(longest_common(one, other), longest_common(other, one))
            self.assertEqual(many_longest(one, other), many_longest(other, one))

    def test_mirrored(self):
        for one, other in row_pairs()[::2]:
            self.assertEqual(many_common(one, other), many_common(one[::-1], other[::-1]))
            self.assertEqual(many_longest(one, other), many_longest(one[::-1], other[::-1]))

    def test_alike(self):
        for row in shaped_rows()[::2]:
            self.assertEqual(many_common(row, row), many_left(row))
            self.assertEqual(longest_common(row, row), row)
            self.assertEqual(many_longest(row, row), 1)

    def test_one_left_of_the_other(self):
        for row in shaped_rows()[1::2]:
            for share in [20, 80]:
                left = thinned(row, share)
                self.assertEqual(many_common(row, left), many_left(left), (row, left))
                self.assertEqual(longest_common(row, left), left)
                self.assertEqual(many_longest(row, left), 1)

    def test_unlike_letters(self):
        for one, other in [("a", "b"), ("ab" * 40, "yz" * 40), (SMALL[:13] * 6, SMALL[13:] * 6), ("a" * 80, "b" * 80)]:
            self.assertEqual(many_common(one, other), 1)
            self.assertEqual(longest_common(one, other), "")
            self.assertEqual(many_longest(one, other), 1)

    def test_one_letter(self):
        for length in range(0, 81, 8):
            self.assertEqual(many_common("q" * 80, "q" * length), length + 1)
            self.assertEqual(longest_common("q" * length, "q" * 80), "q" * length)
            self.assertEqual(many_longest("q" * 80, "q" * length), 1)

    def test_one_thing_with_the_so_manieth(self):
        for one, other in [("banana", "bandana"), ("abcabcab", "cbacbacb"), ("aabbaabb", "bbaabbaa"), ("abc", "")]:
            common = [
                row for row in [left_at(one, place) for place in range(many_left(one))] if is_left(other, row)
            ]
            self.assertEqual(many_common(one, other), len(common))
            longest = longest_common(one, other)
            self.assertEqual(left_at(other, place_of(other, longest)), longest)
            self.assertEqual(many_longest(one, other), len([row for row in common if len(row) == len(longest)]))

    def test_told_alike_again(self):
        for one, other in row_pairs()[::9]:
            told = [(many_common(one, other), longest_common(one, other), many_longest(one, other)) for _ in range(3)]
            self.assertEqual(told, [told[0]] * 3)


if __name__ == "__main__":
    unittest.main()
