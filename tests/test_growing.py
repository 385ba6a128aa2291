"""Rows that grow: promises 24 and 25."""

import random
import unittest

from leavings.counted import by_lengths, many_left
from leavings.errors import NoLetter
from leavings.growing import Growing
from leavings.lengths import of_length_at
from leavings.manieth import left_at, place_of
from leavings.rows import is_left
from samples import SMALL, all_left, other_things, shaped_rows, short_rows, wrong_single_letters, wrong_texts


def grown(row):
    growing = Growing()
    for letter in row:
        growing.put(letter)
    return growing


def undone(growing):
    """All letters that can be undone, the last one first; the growing row is of none then."""
    letters = []
    row = growing.row()
    while growing.undo():
        letters.append(row[-1])
        row = growing.row()
    return "".join(letters)


def told(growing):
    return growing.row(), growing.many(), growing.lengths(), growing.has(""), growing.has("a"), growing.has("ab")


class GrowingTest(unittest.TestCase):
    def check(self, growing, row):
        """Whether all that is told is that of the row."""
        self.assertEqual(growing.row(), row)
        self.assertIs(type(growing.row()), str)
        self.assertEqual(growing.many(), many_left(row))
        self.assertIs(type(growing.many()), int)
        self.assertEqual(growing.lengths(), by_lengths(row))
        self.assertIs(type(growing.lengths()), list)
        for thing in ["", row, row[1:], row[:-1], row[::2], row + "a", "z" + row, row[::-1], "abc"]:
            self.assertIs(growing.has(thing), is_left(row, thing), (row, thing))

    def test_made_of_none(self):
        self.check(Growing(), "")
        self.assertEqual(told(Growing()), ("", 1, [1], True, False, False))

    def test_plain_ones(self):
        growing = Growing()
        self.assertIsNone(growing.put("a"))
        self.assertIsNone(growing.put("b"))
        self.assertIsNone(growing.put("a"))
        self.assertEqual(growing.row(), "aba")
        self.assertEqual(growing.many(), 7)
        self.assertEqual(growing.lengths(), [1, 2, 3, 1])
        self.assertIs(growing.has("ba"), True)
        self.assertIs(growing.has("bb"), False)
        self.assertIs(growing.undo(), True)
        self.assertEqual(growing.row(), "ab")
        self.assertEqual(growing.many(), 4)
        self.assertEqual(growing.lengths(), [1, 2, 1])
        self.assertIs(growing.has("ba"), False)

    def test_nothing_to_undo(self):
        growing = Growing()
        for _ in range(3):
            self.assertIs(growing.undo(), False)
            self.check(growing, "")
        growing.put("q")
        self.assertIs(growing.undo(), True)
        for _ in range(3):
            self.assertIs(growing.undo(), False)
            self.check(growing, "")
        growing.put("z")
        self.check(growing, "z")

    def test_each_short_one(self):
        for row in short_rows("ab", 6) + short_rows("xyz", 4):
            growing = grown(row)
            left = all_left(row)
            self.assertEqual(growing.row(), row)
            self.assertEqual(growing.many(), len(left))
            counts = [len([one for one in left if len(one) == length]) for length in range(len(row) + 1)]
            self.assertEqual(growing.lengths(), counts)
            for one in short_rows("ab", 3) + left:
                self.assertIs(growing.has(one), one in left, (row, one))

    def test_after_each_step(self):
        chance = random.Random(24)
        for letters in ["a", "ab", "xyz", "bdfhz", SMALL]:
            growing = Growing()
            row = ""
            for _ in range(120):
                if chance.randrange(100) < 65 and len(row) < 80:
                    letter = chance.choice(letters)
                    self.assertIsNone(growing.put(letter))
                    row += letter
                else:
                    self.assertIs(growing.undo(), row != "")
                    row = row[:-1]
                self.check(growing, row)

    def test_long_ones(self):
        for row in shaped_rows():
            growing = grown(row)
            self.check(growing, row)
            self.assertEqual(undone(growing), row[::-1])
            self.check(growing, "")

    def test_to_eighty_and_one_more(self):
        for row in ["a" * 80, "ab" * 40, SMALL * 3 + "yz"]:
            growing = grown(row)
            for _ in range(3):
                for letter in SMALL:
                    with self.assertRaises(NoLetter):
                        growing.put(letter)
                self.check(growing, row)
            self.assertIs(growing.undo(), True)
            self.check(growing, row[:-1])
            self.assertIsNone(growing.put("m"))
            self.check(growing, row[:-1] + "m")
            with self.assertRaises(NoLetter):
                growing.put("m")
            self.assertEqual(undone(growing), "m" + row[:-1][::-1])

    def test_each_letter(self):
        growing = Growing()
        for letter in SMALL:
            growing.put(letter)
        self.check(growing, SMALL)

    def test_no_letter(self):
        for row in ["", "a", "banana", "ab" * 40]:
            growing = grown(row)
            ahead = told(growing)
            for name, thing in wrong_single_letters():
                with self.subTest(row=row, thing=name):
                    with self.assertRaises(NoLetter):
                        growing.put(thing)
                self.assertEqual(growing.row(), row)
            self.assertEqual(told(growing), ahead)
            self.assertEqual(undone(growing), row[::-1])

    def test_refused_again_and_again(self):
        growing = Growing()
        row = ""
        for thing in ["", "aa", "ab", "A", " ", "1", 1, 0, True, False, None, [], ["a"], ("a",), {}, {"a": 1}, b"a"]:
            for _ in range(4):
                with self.assertRaises(NoLetter):
                    growing.put(thing)
                growing.put("b")
                row += "b"
                with self.assertRaises(NoLetter):
                    growing.put(thing)
                self.check(growing, row)
        self.assertEqual(undone(growing), row[::-1])

    def test_has_of_anything(self):
        for row in ["", "a", "banana", "ab" * 40]:
            growing = grown(row)
            for name, thing in other_things() + [("text " + text, text) for text in wrong_texts()]:
                with self.subTest(row=row, thing=name):
                    self.assertIs(growing.has(thing), False)
            self.assertIs(growing.has(row), True)
            self.assertIs(growing.has(row * 30 + "z"), False)
            self.check(growing, row)

    def test_two_beside_one_another(self):
        one = Growing()
        other = Growing()
        one.put("a")
        self.check(other, "")
        other.put("b")
        other.put("c")
        self.check(one, "a")
        self.check(other, "bc")
        with self.assertRaises(NoLetter):
            one.put("bc")
        self.assertIs(one.undo(), True)
        self.assertIs(one.undo(), False)
        self.check(one, "")
        self.check(other, "bc")
        self.check(Growing(), "")

    def test_told_lists_are_the_askers_own(self):
        growing = grown("banana")
        lengths = growing.lengths()
        again = growing.lengths()
        self.assertIsNot(lengths, again)
        lengths.append(99)
        lengths[0] = -7
        self.assertEqual(again, by_lengths("banana"))
        self.assertEqual(growing.lengths(), by_lengths("banana"))
        growing.put("s")
        self.assertEqual(again, by_lengths("banana"))
        self.check(growing, "bananas")

    def test_asking_changes_nothing(self):
        growing = grown("abcab")
        for _ in range(3):
            for thing in ["ab", "cc", None, ["a"], 5]:
                growing.has(thing)
            growing.many()
            growing.lengths()
            self.check(growing, "abcab")
        self.assertEqual(undone(growing), "bacba")

    def test_one_thing_with_the_so_manieth(self):
        growing = Growing()
        for letter in "mississippi" * 7:
            growing.put(letter)
            row = growing.row()
            last = left_at(row, growing.many() - 1)
            self.assertGreaterEqual(last, row)
            self.assertEqual(place_of(row, last), growing.many() - 1)
            self.assertEqual(sum(growing.lengths()), growing.many())
            middle = len(row) // 2
            self.assertTrue(growing.has(of_length_at(row, middle, growing.lengths()[middle] - 1)))


if __name__ == "__main__":
    unittest.main()
