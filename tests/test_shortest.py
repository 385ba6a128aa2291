"""The shortest rows of some letters that aren't left: promises 16 to 18."""

import itertools
import math
import unittest

from leavings.counted import by_lengths
from leavings.errors import NoLetters
from leavings.nexts import next_at
from leavings.rows import first_places, is_left
from leavings.shortest import all_left_to, many_shortest, shortest_not_left
from samples import SMALL, long_rows, shaped_rows, short_rows, some_letters, wrong_letters

ALL = [all_left_to, shortest_not_left, many_shortest]


def rows_of(letters, length):
    """All rows of the letters alone that have the length, as texts are ordered."""
    return ["".join(row) for row in itertools.product(letters, repeat=length)]


def longest_of_all(row, letters):
    """The greatest length of which all rows of the letters are left: each letter may be the last one found."""
    length = 0
    place = 0
    while True:
        found = [next_at(row, place, letter) for letter in letters]
        if None in found:
            return length
        place = max(found) + 1
        length += 1


def row_and_letters():
    return [(row, letters) for row in shaped_rows() + long_rows() for letters in some_letters(row)]


def texts_of_letters(letters):
    """All texts of one or more of the letters, each once, rising."""
    found = []
    for many in range(1, len(letters) + 1):
        found += ["".join(some) for some in itertools.combinations(letters, many)]
    return found


class ShortestTest(unittest.TestCase):
    def test_plain_ones(self):
        # Of three letters "aba", "abb" and "bba" are left of "abba", the other five aren't.
        self.assertEqual(all_left_to("abba", "ab"), 2)
        self.assertEqual(shortest_not_left("abba", "ab"), "aaa")
        self.assertEqual(many_shortest("abba", "ab"), 5)
        self.assertEqual(all_left_to("banana", "an"), 2)
        self.assertEqual(shortest_not_left("banana", "an"), "nnn")
        self.assertEqual(many_shortest("banana", "an"), 1)

    def test_row_of_none(self):
        for letters in ["a", "z", "az", "abc", SMALL]:
            self.assertEqual(all_left_to("", letters), 0)
            self.assertEqual(shortest_not_left("", letters), letters[0])
            self.assertEqual(many_shortest("", letters), len(letters))

    def test_letters_that_the_row_has_not_got(self):
        for row in ["a", "banana", "a" * 80]:
            self.assertEqual(all_left_to(row, "axyz"), 0)
            self.assertEqual(shortest_not_left(row, "axyz"), "x")
            self.assertEqual(many_shortest(row, "axyz"), 3)

    def test_one_letter(self):
        for length in range(81):
            for row in ["q" * length, "q" * length + "a" * (80 - length), "z" * (80 - length) + "q" * length]:
                self.assertEqual(all_left_to(row, "q"), length)
                self.assertEqual(shortest_not_left(row, "q"), "q" * (length + 1))
                self.assertEqual(many_shortest(row, "q"), 1)

    def test_all_letters(self):
        self.assertEqual(all_left_to(SMALL * 3, SMALL), 3)
        self.assertEqual(shortest_not_left(SMALL * 3, SMALL), "aaaa")
        # Those of four letters that never rise.
        self.assertEqual(many_shortest(SMALL * 3, SMALL), math.comb(29, 4))
        self.assertEqual(shortest_not_left(SMALL[::-1] * 3, SMALL), "aaaa")
        self.assertEqual(shortest_not_left(SMALL + "a", SMALL), "bb")
        self.assertEqual(all_left_to(SMALL[1:] * 3, SMALL), 0)
        self.assertEqual(shortest_not_left(SMALL[1:] * 3, SMALL), "a")
        self.assertEqual(many_shortest(SMALL[1:] * 3, SMALL), 1)

    def test_each_short_one(self):
        tried = list(itertools.product(short_rows("ab", 7), texts_of_letters("abc")))
        tried += list(itertools.product(short_rows("abc", 5), texts_of_letters("abcd")))
        for row, letters in tried:
            length = 0
            missed = []
            while not missed:
                length += 1
                missed = [one for one in rows_of(letters, length) if not is_left(row, one)]
            self.assertEqual(all_left_to(row, letters), length - 1, (row, letters))
            self.assertEqual(shortest_not_left(row, letters), missed[0], (row, letters))
            self.assertEqual(many_shortest(row, letters), len(missed), (row, letters))

    def test_lengths_of_long_ones(self):
        for row, letters in row_and_letters():
            length = all_left_to(row, letters)
            self.assertIs(type(length), int)
            self.assertEqual(length, longest_of_all(row, letters), (row, letters))
            self.assertEqual(length, all_left_to(row[::-1], letters), (row, letters))
            self.assertEqual(len(shortest_not_left(row, letters)), length + 1, (row, letters))

    def test_not_left_of_long_ones(self):
        for row, letters in row_and_letters():
            first = shortest_not_left(row, letters)
            self.assertIs(type(first), str)
            self.assertEqual(set(first) - set(letters), set())
            self.assertFalse(is_left(row, first), (row, letters))
            for at in range(len(first)):
                self.assertTrue(is_left(row, first[:at] + first[at + 1:]), (row, letters, at))

    def test_all_shorter_ones_are_left(self):
        gone_through = 0
        for row, letters in row_and_letters():
            length = all_left_to(row, letters)
            if len(letters) ** length <= 700:
                gone_through += 1
                for one in rows_of(letters, length):
                    self.assertTrue(is_left(row, one), (row, letters, one))
        self.assertGreater(gone_through, 1000)

    def test_first_of_the_shortest(self):
        for row, letters in row_and_letters():
            first = shortest_not_left(row, letters)
            for at, letter in enumerate(first):
                for lesser in letters[:letters.index(letter)]:
                    start = first[:at] + lesser
                    # The ends that stand ahead are all left behind this beginning.
                    behind = first_places(row, start)[-1] + 1
                    self.assertGreaterEqual(longest_of_all(row[behind:], letters), len(first) - len(start))

    def test_how_many_of_long_ones(self):
        for row, letters in row_and_letters():
            many = many_shortest(row, letters)
            self.assertIs(type(many), int)
            length = all_left_to(row, letters) + 1
            counts = by_lengths("".join(letter for letter in row if letter in letters)) + [0]
            self.assertEqual(many, len(letters) ** length - counts[length], (row, letters))
            self.assertEqual(counts[:length], [len(letters) ** shorter for shorter in range(length)], (row, letters))

    def test_other_letters_of_the_row_are_not_looked_at(self):
        for row, letters in row_and_letters()[::3]:
            alone = "".join(letter for letter in row if letter in letters)
            for tell in ALL:
                self.assertEqual(tell(row, letters), tell(alone, letters), (row, letters))

    def test_no_letters(self):
        for row in ["", "a", "banana", SMALL * 3, "ab" * 40]:
            for name, thing in wrong_letters():
                for tell in ALL:
                    with self.subTest(row=row, thing=name, told=tell.__name__):
                        with self.assertRaises(NoLetters):
                            tell(row, thing)

    def test_each_short_text_that_is_no_letters(self):
        good = texts_of_letters("abcde")
        for text in short_rows("abcde", 5):
            if text not in good:
                for tell in ALL:
                    with self.assertRaises(NoLetters):
                        tell("abcdeabcde", text)

    def test_each_text_of_letters_is_taken(self):
        for letters in texts_of_letters("abcdefg") + [SMALL, SMALL[1:], SMALL[:25], "az", "z", "a"]:
            self.assertEqual(all_left_to(letters, letters), 1)
            self.assertEqual(shortest_not_left(letters[1:], letters), letters[0])

    def test_refused_again_and_again(self):
        for thing in ["", "aa", "ba", "A", "a ", "1", 1, 0, True, False, None, [], ["a"], ("a",), {}, {"a": 1}]:
            for _ in range(4):
                for tell in ALL:
                    with self.assertRaises(NoLetters):
                        tell("banana", thing)
                self.assertEqual([tell("banana", "an") for tell in ALL], [2, "nnn", 1])

    def test_things_stay_as_they_were(self):
        things = ["a", ["b"], {"c": 1}]
        for tell in ALL:
            with self.assertRaises(NoLetters):
                tell("abc", things)
        self.assertEqual(things, ["a", ["b"], {"c": 1}])


if __name__ == "__main__":
    unittest.main()
