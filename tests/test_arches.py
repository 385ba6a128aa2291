"""Arches and the small checker: promises 21 to 23."""

import itertools
import unittest

from leavings.arches import arches, shows
from leavings.errors import NoLetters
from leavings.rows import is_left
from leavings.shortest import all_left_to
from samples import (
    SMALL, deep_list, deep_tuple, long_rows, other_things, shaped_rows, short_rows, some_letters, wrong_letters,
)


def row_and_letters():
    return [(row, letters) for row in shaped_rows() + long_rows() for letters in some_letters(row)]


def least_end(row, start, letters):
    """The least end of an arch from the start on, by trying each, or None."""
    for end in range(start, len(row) + 1):
        if set(letters) <= set(row[start:end]):
            return end
    return None


def is_paper(row, letters, places):
    """Whether a list of whole numbers is a paper, as the document tells it, word by word."""
    if any(place > len(row) for place in places):
        return False
    starts = [0] + places
    for start, end in zip(starts, places):
        if end < start or end < 0 or not set(letters) <= set(row[start:end]):
            return False
    return True


class ArchesTest(unittest.TestCase):
    def test_plain_ones(self):
        self.assertEqual(arches("banana", "an"), [3, 5])
        self.assertEqual(arches("banana", "abn"), [3])
        self.assertEqual(arches("banana", "a"), [2, 4, 6])
        self.assertEqual(arches("abab", "ab"), [2, 4])
        self.assertEqual(arches("banana", "anz"), [])

    def test_row_of_none(self):
        for letters in ["a", "z", "az", SMALL]:
            self.assertEqual(arches("", letters), [])
            self.assertEqual(shows("", letters, []), 0)
            for paper in [[0], [1], [-1], [0, 0]]:
                self.assertIsNone(shows("", letters, paper))

    def test_one_letter(self):
        for length in range(81):
            self.assertEqual(arches("q" * length, "q"), list(range(1, length + 1)))
            self.assertEqual(shows("q" * length, "q", list(range(1, length + 1))), length)
            self.assertEqual(arches("q" * length, "p"), [])

    def test_all_letters(self):
        self.assertEqual(arches(SMALL * 3, SMALL), [26, 52, 78])
        self.assertEqual(arches(SMALL * 3 + "ab", SMALL), [26, 52, 78])
        self.assertEqual(arches(SMALL + SMALL[::-1], SMALL), [26, 52])
        self.assertEqual(arches(SMALL[1:] * 3, SMALL), [])

    def test_as_many_as_the_greatest_length(self):
        for row, letters in row_and_letters():
            self.assertEqual(len(arches(row, letters)), all_left_to(row, letters), (row, letters))

    def test_each_end_the_least(self):
        for row, letters in row_and_letters():
            paper = arches(row, letters)
            self.assertIs(type(paper), list)
            start = 0
            for end in paper:
                self.assertIs(type(end), int)
                self.assertEqual(end, least_end(row, start, letters), (row, letters))
                start = end
            self.assertIsNone(least_end(row, start, letters), (row, letters))

    def test_all_rows_of_so_many_are_left(self):
        for row in short_rows("ab", 7) + short_rows("abc", 5):
            for letters in ["a", "ab", "abc", "c"]:
                many = len(arches(row, letters))
                for one in itertools.product(letters, repeat=many):
                    self.assertTrue(is_left(row, "".join(one)), (row, letters))
                longer = itertools.product(letters, repeat=many + 1)
                self.assertFalse(all(is_left(row, "".join(one)) for one in longer), (row, letters))

    def test_told_alike_again(self):
        for row, letters in row_and_letters()[::7]:
            self.assertEqual([arches(row, letters) for _ in range(3)], [arches(row, letters)] * 3)

    def test_told_lists_are_the_askers_own(self):
        for row, letters in [("banana", "an"), ("", "a"), (SMALL * 3, SMALL)]:
            told = arches(row, letters)
            kept = list(told)
            again = arches(row, letters)
            self.assertIsNot(told, again)
            told.append(99)
            told[0] = -7
            self.assertEqual(again, kept)
            self.assertEqual(arches(row, letters), kept)

    def test_no_letters(self):
        for row in ["", "banana", SMALL * 3]:
            for name, thing in wrong_letters():
                with self.subTest(row=row, thing=name):
                    with self.assertRaises(NoLetters):
                        arches(row, thing)

    def test_refused_again_and_again(self):
        for thing in ["", "aa", "ba", "A", "a ", "1", 1, 0, True, False, None, [], ["a"], ("a",), {}, {"a": 1}]:
            for _ in range(4):
                with self.assertRaises(NoLetters):
                    arches("banana", thing)
                with self.assertRaises(NoLetters):
                    shows("banana", thing, [3])
                self.assertEqual(arches("banana", "an"), [3, 5])
                self.assertEqual(shows("banana", "an", [3, 5]), 2)


class CheckerTest(unittest.TestCase):
    def test_told_paper(self):
        for row, letters in row_and_letters():
            paper = arches(row, letters)
            many = shows(row, letters, paper)
            self.assertIs(type(many), int)
            self.assertEqual(many, len(paper), (row, letters))

    def test_cut_short(self):
        for row, letters in row_and_letters():
            paper = arches(row, letters)
            for many in range(len(paper)):
                self.assertEqual(shows(row, letters, paper[:many]), many, (row, letters))
            self.assertEqual(shows(row, letters, paper[1:]), len(paper[1:]), (row, letters))

    def test_last_end_made_later(self):
        for row, letters in row_and_letters():
            paper = arches(row, letters)
            if paper:
                for end in range(paper[-1], len(row) + 1):
                    self.assertEqual(shows(row, letters, paper[:-1] + [end]), len(paper), (row, letters, end))

    def test_ends_made_otherwise(self):
        for row, letters in row_and_letters()[::4]:
            paper = arches(row, letters)
            for at in range(len(paper)):
                for end in range(paper[at] - 2, paper[at] + 4):
                    changed = paper[:at] + [end] + paper[at + 1:]
                    wanted = len(changed) if is_paper(row, letters, changed) else None
                    self.assertEqual(shows(row, letters, changed), wanted, (row, letters, changed))

    def test_ends_made_earlier(self):
        for row, letters in row_and_letters():
            paper = arches(row, letters)
            for at in range(len(paper)):
                self.assertIsNone(shows(row, letters, paper[:at] + [paper[at] - 1]), (row, letters))

    def test_a_place_too_many(self):
        for row, letters in row_and_letters():
            paper = arches(row, letters)
            for place in [0, len(row), len(row) + 1, -1] + paper[-1:]:
                self.assertIsNone(shows(row, letters, paper + [place]), (row, letters, place))
            self.assertIsNone(shows(row, letters, [0] + paper), (row, letters))

    def test_each_short_list(self):
        rows = ["", "a", "ab", "ba", "abab", "aabb", "abba", "bab", "abcab"]
        for row, letters in itertools.product(rows, ["a", "b", "ab", "abc"]):
            numbers = range(-len(row) - 1, len(row) + 3)
            for many in range(4):
                for places in itertools.product(numbers, repeat=many):
                    wanted = many if is_paper(row, letters, list(places)) else None
                    self.assertEqual(shows(row, letters, list(places)), wanted, (row, letters, places))

    def test_not_rising(self):
        for places in [[4, 2], [2, 2], [2, 4, 4], [2, 4, 3], [4, 4], [4, 0], [2, 0, 2]]:
            self.assertIsNone(shows("abab", "ab", places), places)
        self.assertEqual(shows("abab", "ab", [2, 4]), 2)

    def test_below_nought_and_beyond(self):
        for places in [[-1], [-2], [-2, 4], [2, -1], [5], [2, 5], [10 ** 60], [-10 ** 60], [2, 4 + 2 ** 64]]:
            self.assertIsNone(shows("abab", "ab", places), places)
        self.assertEqual(shows("abab", "ab", [4]), 1)

    def test_truths(self):
        self.assertEqual(shows("ab", "a", [1]), 1)
        for places in [[True], [False], [True, 2], [0, True], [False, 1]]:
            self.assertIsNone(shows("ab", "a", places), places)
        self.assertEqual(shows("aa", "a", [1, 2]), 2)
        self.assertIsNone(shows("aa", "a", [True, 2]))

    def test_anything(self):
        for row, letters in [("banana", "an"), ("", "a"), ("a", "a"), (SMALL * 3, SMALL)]:
            for name, thing in other_things():
                with self.subTest(row=row, thing=name):
                    self.assertEqual(shows(row, letters, thing), 0 if name == "empty list" else None)

    def test_anything_among_the_places(self):
        for name, thing in other_things():
            for places in [[thing], [3, thing], [thing, 5], [3, 5, thing], [[3], thing], [(3, 5)], [[3, 5]]]:
                with self.subTest(thing=name):
                    self.assertIsNone(shows("banana", "an", places))

    def test_the_paper_in_another_kind(self):
        for thing in [(3, 5), "3 5", "[3, 5]", {3: 5}, {3: 0, 5: 0}, {3, 5}, b"\x03\x05", range(3, 6, 2), iter([3, 5])]:
            self.assertIsNone(shows("banana", "an", thing))
        for places in [["3", "5"], ["3"], [3, "5"], [b"3"], [None], [3, None], [deep_list(5000)], [3, deep_tuple(5000)]]:
            self.assertIsNone(shows("banana", "an", places))

    def test_texts(self):
        for text in ["", "-", "0", "3", "3 5", "banana", "\n", " " * 3000, "[]"]:
            self.assertIsNone(shows("banana", "an", text))

    def test_no_letters_ahead_of_anything(self):
        papers = [pair for pair in other_things() if pair[0] in ["None", "empty list", "deep list", "a prickly object"]]
        for name, letters in wrong_letters():
            for kind, thing in papers + [("a paper", [3, 5]), ("no paper", [5, 3])]:
                with self.subTest(letters=name, thing=kind):
                    with self.assertRaises(NoLetters):
                        shows("banana", letters, thing)

    def test_things_stay_as_they_were(self):
        for things in [[3, 5], [5, 3], [3, [5]], [[], {"a": 1}], []]:
            kept = list(things)
            shows("banana", "an", things)
            self.assertEqual(things, kept)

    def test_lists_are_not_kept(self):
        paper = [3, 5]
        self.assertEqual(shows("banana", "an", paper), 2)
        paper.append(6)
        self.assertIsNone(shows("banana", "an", paper))
        self.assertEqual(arches("banana", "an"), [3, 5])
        del paper[1:]
        self.assertEqual(shows("banana", "an", paper), 1)


if __name__ == "__main__":
    unittest.main()
