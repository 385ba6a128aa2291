"""Next ones: promise 6, by both doors."""

import unittest

from leavings.nexts import Nexts, next_at
from samples import long_rows, short_rows

SMALL = "abcdefghijklmnopqrstuvwxyz"


def least_place(row, start, letter):
    """The least place from the start on that has the letter, by looking at each."""
    places = [place for place, sign in enumerate(row) if sign == letter and place >= start]
    return min(places, default=None)


class NextsTest(unittest.TestCase):
    def check_row(self, row, letters):
        nexts = Nexts(row)
        for place in range(len(row) + 1):
            for letter in letters:
                wanted = least_place(row, place, letter)
                for told in [next_at(row, place, letter), nexts.at(place, letter)]:
                    self.assertEqual(told, wanted, (row, place, letter))
                    self.assertIs(type(told), type(wanted))

    def test_plain_ones(self):
        nexts = Nexts("banana")
        for place, letter, wanted in [
            (0, "b", 0), (1, "b", None), (0, "a", 1), (1, "a", 1), (2, "a", 3), (4, "a", 5), (5, "a", 5),
            (6, "a", None), (0, "n", 2), (3, "n", 4), (5, "n", None), (0, "c", None), (6, "z", None),
        ]:
            self.assertEqual(next_at("banana", place, letter), wanted, (place, letter))
            self.assertEqual(nexts.at(place, letter), wanted, (place, letter))

    def test_row_of_none(self):
        nexts = Nexts("")
        for letter in SMALL:
            self.assertIsNone(next_at("", 0, letter))
            self.assertIsNone(nexts.at(0, letter))

    def test_each_short_one(self):
        for row in short_rows("ab", 7) + short_rows("abz", 4):
            self.check_row(row, "abcz")

    def test_long_ones(self):
        for row in long_rows():
            self.check_row(row, SMALL)

    def test_somewhat_beyond_the_ends(self):
        for row in ["", "a", "banana", "ab" * 40]:
            nexts = Nexts(row)
            for letter in "abn":
                for place in [-10 ** 60, -81, -2, -1]:
                    wanted = least_place(row, place, letter)
                    self.assertEqual(next_at(row, place, letter), wanted)
                    self.assertEqual(nexts.at(place, letter), wanted)
                for place in [len(row) + 1, len(row) + 2, len(row) + 81, 10 ** 60]:
                    self.assertIsNone(next_at(row, place, letter))
                    self.assertIsNone(nexts.at(place, letter))

    def test_several_asked_by_turns(self):
        rows = ["", "a", "b", "ab", "ba", "banana", "z" * 80, "ab" * 40]
        asked = [Nexts(row) for row in rows]
        for place in list(range(81)) + list(range(80, -1, -1)):
            for row, nexts in zip(rows, asked):
                if place <= len(row):
                    for letter in "abnz":
                        self.assertEqual(nexts.at(place, letter), least_place(row, place, letter))

    def test_two_of_one_row(self):
        one = Nexts("banana")
        other = Nexts("banana")
        self.assertEqual([one.at(2, "a"), other.at(4, "a"), one.at(2, "a")], [3, 5, 3])

    def test_told_the_same_again(self):
        nexts = Nexts("banana")
        told = [[nexts.at(place, letter) for place in range(7)] for letter in "abcn"]
        again = [[nexts.at(place, letter) for place in range(7)] for letter in "abcn"]
        door = [[next_at("banana", place, letter) for place in range(7)] for letter in "abcn"]
        self.assertEqual(told, again)
        self.assertEqual(told, door)

    def test_method_stands_in_its_class(self):
        self.assertIn("at", vars(Nexts))


if __name__ == "__main__":
    unittest.main()
