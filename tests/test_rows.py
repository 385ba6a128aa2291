"""Rows and what is left: promises 1, 3, 4 and 5."""

import itertools
import unittest

from leavings.rows import first_places, is_left, is_row, last_places
from samples import long_rows, other_things, short_rows, thinned, wrong_texts

SMALL = "abcdefghijklmnopqrstuvwxyz"


def ways(row, other):
    """All rising lists of places by which the other one is left of the row, by trying each."""
    found = []
    for places in itertools.combinations(range(len(row)), len(other)):
        if "".join(row[place] for place in places) == other:
            found.append(list(places))
    return found


def left_by_table(row, other):
    """Whether the other one is left of the row, by the length of the longest row left of both."""
    longest = [[0] * (len(other) + 1) for _ in range(len(row) + 1)]
    for i, mine in enumerate(row):
        for j, theirs in enumerate(other):
            if mine == theirs:
                longest[i + 1][j + 1] = longest[i][j] + 1
            else:
                longest[i + 1][j + 1] = max(longest[i][j + 1], longest[i + 1][j])
    return longest[len(row)][len(other)] == len(other)


class IsRowTest(unittest.TestCase):
    def test_rows(self):
        rows = ["", "a", "z", "m", "ab", "banana", SMALL, SMALL[::-1], "a" * 80]
        for row in rows + list(SMALL) + long_rows():
            with self.subTest(row=row):
                self.assertIs(is_row(row), True)

    def test_however_long(self):
        for length in [81, 3000, 5000, 200000]:
            self.assertIs(is_row("az" * length), True)
            self.assertIs(is_row("az" * length + "A"), False)
            self.assertIs(is_row("\n" + "az" * length), False)
            self.assertIs(is_row("az" * length + " " + "az" * length), False)

    def test_texts_with_another_sign(self):
        for text in wrong_texts():
            with self.subTest(text=text):
                self.assertIs(is_row(text), False)

    def test_signs_next_to_the_letters(self):
        for text in ["`", "{", "a`", "`a", "a`a", "z{", "{z", "z{z", "@", "[", "A", "Z", "a\n", "\na", "a\nb"]:
            with self.subTest(text=text):
                self.assertIs(is_row(text), False)

    def test_other_things(self):
        for name, thing in other_things():
            with self.subTest(thing=name):
                self.assertIs(is_row(thing), False)

    def test_told_the_same_again(self):
        for text in ["abc", "aBc", ""]:
            self.assertEqual(is_row(text), is_row(text))


class IsLeftTest(unittest.TestCase):
    def test_plain_ones(self):
        for thing in ["", "b", "n", "bnn", "aaa", "ban", "ana", "banana", "anana", "banan"]:
            with self.subTest(thing=thing):
                self.assertIs(is_left("banana", thing), True)
        for thing in ["c", "nb", "ab", "nnn", "aaaa", "bb", "nanaa", "bananas", "abanana", "bananaa", "naab"]:
            with self.subTest(thing=thing):
                self.assertIs(is_left("banana", thing), False)

    def test_row_of_none(self):
        self.assertIs(is_left("", ""), True)
        self.assertIs(is_left("", "a"), False)

    def test_same_letters_in_another_order(self):
        for order in itertools.permutations("abcd"):
            thing = "".join(order)
            self.assertIs(is_left("abcd", thing), thing == "abcd")

    def test_each_short_one(self):
        for row in short_rows("ab", 6):
            for thing in short_rows("ab", 7):
                self.assertIs(is_left(row, thing), bool(ways(row, thing)), (row, thing))

    def test_each_short_one_of_three_letters(self):
        for row in short_rows("abc", 4):
            for thing in short_rows("abc", 4):
                self.assertIs(is_left(row, thing), bool(ways(row, thing)), (row, thing))

    def test_long_ones(self):
        rows = long_rows()
        for row in rows:
            self.assertIs(is_left(row, row), True)
            self.assertIs(is_left(row, ""), True)
            self.assertIs(is_left(row, row + row[-1]), False)
            self.assertIs(is_left(row, row[0] + row), False)
            for share in [10, 50, 90]:
                self.assertIs(is_left(row, thinned(row, share)), True)
            for other in rows:
                self.assertIs(is_left(row, other[::3]), left_by_table(row, other[::3]), (row, other))
                self.assertIs(is_left(row, other), left_by_table(row, other), (row, other))

    def test_a_longer_row_than_any(self):
        self.assertIs(is_left("ab", "ab" * 5000), False)

    def test_no_row_is_not_left(self):
        for row in ["", "a", "abz", "abz" * 20]:
            for text in wrong_texts():
                self.assertIs(is_left(row, text), False, (row, text))
            for name, thing in other_things():
                with self.subTest(row=row, thing=name):
                    self.assertIs(is_left(row, thing), False)

    def test_things_stay_as_they_were(self):
        letters = ["a", ["b"], {"c": 1}]
        self.assertIs(is_left("abc", letters), False)
        self.assertIs(is_row(letters), False)
        self.assertEqual(letters, ["a", ["b"], {"c": 1}])


class PlacesTest(unittest.TestCase):
    def check_list(self, places):
        self.assertIs(type(places), list)
        for place in places:
            self.assertIs(type(place), int)

    def test_plain_ones(self):
        self.assertEqual(first_places("banana", "an"), [1, 2])
        self.assertEqual(last_places("banana", "an"), [3, 4])
        self.assertEqual(first_places("banana", "aa"), [1, 3])
        self.assertEqual(last_places("banana", "aa"), [3, 5])
        self.assertEqual(first_places("banana", "bn"), [0, 2])
        self.assertEqual(last_places("banana", "bn"), [0, 4])
        self.assertEqual(first_places("banana", "banana"), [0, 1, 2, 3, 4, 5])
        self.assertEqual(last_places("banana", "banana"), [0, 1, 2, 3, 4, 5])

    def test_row_of_none(self):
        for row in ["", "a", "banana", "a" * 80]:
            self.assertEqual(first_places(row, ""), [])
            self.assertEqual(last_places(row, ""), [])

    def test_not_left(self):
        for row, other in [("", "a"), ("a", "b"), ("a", "aa"), ("ab", "ba"), ("banana", "nb"), ("abc", "abcd")]:
            self.assertIsNone(first_places(row, other))
            self.assertIsNone(last_places(row, other))

    def test_each_short_one(self):
        pairs = list(itertools.product(short_rows("ab", 6), short_rows("ab", 6)))
        pairs += list(itertools.product(short_rows("abc", 4), short_rows("abc", 4)))
        for row, other in pairs:
            found = ways(row, other)
            if not found:
                self.assertIsNone(first_places(row, other), (row, other))
                self.assertIsNone(last_places(row, other), (row, other))
                continue
            least = [min(places) for places in zip(*found)]
            greatest = [max(places) for places in zip(*found)]
            self.assertEqual(first_places(row, other), least, (row, other))
            self.assertEqual(last_places(row, other), greatest, (row, other))

    def check_first(self, row, other, places):
        ahead = -1
        for letter, place in zip(other, places, strict=True):
            self.assertGreater(place, ahead)
            self.assertEqual(row[place], letter)
            self.assertNotIn(letter, row[ahead + 1:place])
            ahead = place

    def check_last(self, row, other, places):
        behind = len(row)
        for letter, place in zip(other[::-1], places[::-1], strict=True):
            self.assertLess(place, behind)
            self.assertEqual(row[place], letter)
            self.assertNotIn(letter, row[place + 1:behind])
            behind = place

    def test_long_ones(self):
        rows = long_rows()
        for row in rows:
            others = [row, row[:1], row[-1:]] + [thinned(row, share) for share in [5, 30, 60, 95]]
            for other in others:
                first = first_places(row, other)
                last = last_places(row, other)
                self.check_list(first)
                self.check_list(last)
                self.check_first(row, other, first)
                self.check_last(row, other, last)
            for other in rows:
                left = left_by_table(row, other)
                self.assertEqual(first_places(row, other) is not None, left)
                self.assertEqual(last_places(row, other) is not None, left)

    def test_a_told_list_is_the_askers_own(self):
        for tell in [first_places, last_places]:
            for row, other in [("banana", "ana"), ("banana", ""), ("", "")]:
                told = tell(row, other)
                kept = list(told)
                again = tell(row, other)
                self.assertIsNot(told, again)
                told.append(99)
                told[0] = -7
                self.assertEqual(again, kept)
                self.assertEqual(tell(row, other), kept)

    def test_the_two_lists_are_not_one(self):
        first = first_places("abc", "abc")
        last = last_places("abc", "abc")
        first.clear()
        self.assertEqual(last, [0, 1, 2])


if __name__ == "__main__":
    unittest.main()
