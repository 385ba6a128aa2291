"""Lists written as texts and read back: promise 26."""

import itertools
import random
import re
import unittest

from leavings.arches import arches
from leavings.counted import by_lengths
from leavings.errors import NoText
from leavings.notes import read_list, show_list
from leavings.ways import many_ways, way_at
from samples import other_things, shaped_rows

MOST = 10 ** 30 - 1

# What the document tells of such a text, in one pattern.
SUCH = re.compile(r"-|(0|[1-9][0-9]{0,29})( (0|[1-9][0-9]{0,29}))*")


def lists():
    """Lists of none, of one and of many numbers, of one to thirty figures."""
    chance = random.Random(26)
    found = [[], [0], [1], [9], [10], [MOST], [0, 0], [0, MOST, 0], [MOST] * 90, [0] * 1500, list(range(500))]
    for figures in range(1, 31):
        found.append([10 ** (figures - 1)])
        found.append([10 ** figures - 1])
        found.append([chance.randrange(10 ** figures) for _ in range(chance.randrange(1, 60))])
    return found


class NotesTest(unittest.TestCase):
    def test_plain_ones(self):
        self.assertEqual(show_list([]), "-")
        self.assertEqual(show_list([0]), "0")
        self.assertEqual(show_list([1, 0, 20]), "1 0 20")
        self.assertEqual(show_list([MOST]), "9" * 30)
        self.assertEqual(read_list("-"), [])
        self.assertEqual(read_list("0"), [0])
        self.assertEqual(read_list("1 0 20"), [1, 0, 20])
        self.assertEqual(read_list("9" * 30), [MOST])

    def test_written_and_read_back(self):
        for numbers in lists():
            text = show_list(numbers)
            self.assertIs(type(text), str)
            self.assertTrue(SUCH.fullmatch(text))
            back = read_list(text)
            self.assertIs(type(back), list)
            self.assertEqual(back, numbers)
            for number in back:
                self.assertIs(type(number), int)
            self.assertEqual(show_list(back), text)
            self.assertEqual(text, " ".join(str(number) for number in numbers) or "-")

    def test_what_was_told(self):
        for row in shaped_rows():
            told = [by_lengths(row), arches(row, "ab"), arches(row, "z"), way_at(row, row[::2], many_ways(row, row[::2]) - 1)]
            for numbers in told:
                self.assertEqual(read_list(show_list(numbers)), numbers)

    def test_no_text(self):
        texts = ["", " ", "  ", "\n", "--", "- ", " -", "- -", "-\n", "-0", "-1", "+1", "+", "1 -", "- 1", "1 - 2"]
        texts += ["01", "00", "000", "0 00", "1 02", "007", "0" * 30, "0" + "9" * 29, "01 1", "1 01"]
        texts += [" 1", "1 ", " 1 ", "1  2", "1   2", "1 2 ", " 1 2", "0 ", " 0", "1\n", "\n1", "1\n2", "1 \n2", "1 2\n"]
        texts += ["1" * 31, "9" * 31, "1" + "0" * 30, "5 " + "1" * 31, "1" * 31 + " 5", "1" * 3000, "0" * 31, str(10 ** 60)]
        texts += ["a", "1a", "a1", "1 a", "a 1", "1,2", "1, 2", "1;2", "[1]", "[]", "()", "1.0", "1.", ".1", "1e3", "0x1"]
        texts += ["1_0", "0b1", "None", "True", "one", "1\t2", "'1'", "1 2 3 x", "1 2 -3", "1 +2", "/", ":", "1/", "1:"]
        for text in texts:
            with self.subTest(text=text[:90]):
                with self.assertRaises(NoText):
                    read_list(text)

    def test_each_sign_at_each_place(self):
        signs = [chr(code) for code in range(ord(" "), ord("~") + 1)] + ["\n"]
        for sign, text in itertools.product(signs, ["1", "0", "10", "1 2", "30 0 5", "-", ""]):
            for at in range(len(text) + 1):
                self.check_as_told(text[:at] + sign + text[at:])

    def test_each_short_text(self):
        for length in range(6):
            for signs in itertools.product("01 -\n", repeat=length):
                self.check_as_told("".join(signs))

    def test_figures_from_one_to_forty(self):
        for figures in range(41):
            for text in ["1" * figures, "9" * figures, "1" + "0" * figures, "0" * figures, "7 " + "3" * figures]:
                self.check_as_told(text)

    def check_as_told(self, text):
        if SUCH.fullmatch(text):
            self.assertEqual(show_list(read_list(text)), text)
        else:
            with self.assertRaises(NoText):
                read_list(text)

    def test_what_is_no_text_at_all(self):
        for name, thing in other_things():
            with self.subTest(thing=name):
                with self.assertRaises(NoText):
                    read_list(thing)

    def test_refused_again_and_again(self):
        for text in ["", "01", " 1", "1 ", "1  2", "-1", "x", "1" * 31]:
            for _ in range(4):
                with self.assertRaises(NoText):
                    read_list(text)
                self.assertEqual(read_list("3 0"), [3, 0])
                self.assertEqual(read_list("-"), [])

    def test_lists_are_not_changed_or_kept(self):
        numbers = [3, 1, 2]
        text = show_list(numbers)
        self.assertEqual(numbers, [3, 1, 2])
        numbers.append(7)
        self.assertEqual(text, "3 1 2")
        self.assertEqual(show_list([3, 1, 2]), "3 1 2")

    def test_told_lists_are_the_askers_own(self):
        for text in ["-", "3 1 2"]:
            told = read_list(text)
            again = read_list(text)
            self.assertIsNot(told, again)
            told.append(99)
            told[0] = -7
            self.assertEqual(show_list(again), text)
            self.assertEqual(show_list(read_list(text)), text)


if __name__ == "__main__":
    unittest.main()
