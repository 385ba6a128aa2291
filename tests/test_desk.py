"""The desk: promise 27 and the rows of words that the interface lists."""

import itertools
import random
import unittest

from leavings.arches import arches
from leavings.common import longest_common, many_common
from leavings.counted import by_lengths, many_left
from leavings.desk import Desk
from leavings.errors import NoCommand, NoLetter, NoLetters, NoPlace, NoRow
from leavings.lengths import of_length_at
from leavings.manieth import left_at, place_of
from leavings.notes import read_list, show_list
from leavings.parted import parts
from leavings.rows import is_left
from leavings.shortest import shortest_not_left
from leavings.ways import many_ways, way_at
from samples import SMALL, other_things, row_pairs, thinned, wrong_letters, wrong_single_letters, wrong_texts

ALONE = ["undo", "show", "many", "lengths", "ways", "common", "parts"]
WITH_ROW = ["row", "other", "left", "place"]
WITH_NUMBER = ["at", "way"]
WITH_LETTERS = ["short", "arches"]
ALL = ALONE + WITH_ROW + WITH_NUMBER + WITH_LETTERS + ["put", "long"]

WRONG_NUMBERS = [
    "", "-", "-0", "-1", "+1", "00", "01", "007", "0" * 30, "1" * 31, "0" * 31, "9" * 100, "a", "1a", "0x1", "1.0",
    "1_0", "\n", "1\n", "\n1", "one", "None", "True", "/", ":", ",", "1,2", "\t1",
]


def desk_of(row, other):
    desk = Desk()
    desk.say("row " + word_of(row))
    desk.say("other " + word_of(other))
    return desk


def word_of(row):
    return row or "-"


def all_told(desk):
    """All that a desk tells of itself, without a change."""
    asked = ["show", "many", "lengths", "ways", "common", "parts", "at 0", "long 0 0", "left a", "short ab", "arches a"]
    return [desk.say(words) for words in asked]


def undone(desk):
    """The letters of the desk's growing row, by undoing them; it is of none then."""
    letters = []
    row = desk.say("show").split(" ")[0]
    while desk.say("undo") == "ok":
        letters.append(row[-1])
        row = desk.say("show").split(" ")[0]
    return "".join(reversed(letters))


class DeskCase(unittest.TestCase):
    def refused(self, desk, error, words):
        """That the words are refused with the error, and that nothing is changed by them."""
        ahead = all_told(desk)
        with self.assertRaises(error):
            desk.say(words)
        self.assertEqual(all_told(desk), ahead)


class AnswersTest(DeskCase):
    def say_all(self, desk, said):
        for words, answer in said:
            told = desk.say(words)
            self.assertIs(type(told), str)
            self.assertEqual(told, answer, words)

    def test_both_of_none_at_first(self):
        self.say_all(Desk(), [
            ("show", "- -"), ("many", "1"), ("lengths", "1"), ("left -", "yes"), ("left a", "no"), ("at 0", "-"),
            ("place -", "0"), ("long 0 0", "-"), ("ways", "1"), ("way 0", "-"), ("common", "1 -"), ("parts", "-"),
            ("short abc", "a"), ("arches abc", "-"), ("undo", "none"), ("undo", "none"), ("show", "- -"),
        ])

    def test_each_row_of_words(self):
        self.say_all(Desk(), [
            ("row banana", "ok"), ("show", "banana -"), ("other an", "ok"), ("show", "banana an"),
            ("many", "40"), ("lengths", "1 3 6 11 12 6 1"),
            ("left bnn", "yes"), ("left nb", "no"), ("left -", "yes"), ("left banana", "yes"), ("left bananas", "no"),
            ("at 0", "-"), ("at 1", "a"), ("at 39", "nna"), ("place -", "0"), ("place a", "1"), ("place nna", "39"),
            ("long 0 0", "-"), ("long 3 10", "nna"), ("long 6 0", "banana"),
            ("ways", "3"), ("way 0", "1 2"), ("way 1", "1 4"), ("way 2", "3 4"),
            ("common", "4 an"), ("parts", "b"), ("short an", "nnn"), ("arches an", "3 5"), ("arches q", "-"),
            ("put s", "ok"), ("show", "bananas an"), ("undo", "ok"), ("undo", "ok"), ("show", "banan an"),
            ("other -", "ok"), ("show", "banan -"), ("ways", "1"), ("way 0", "-"), ("common", "1 -"), ("parts", "a"),
            ("other banan", "ok"), ("parts", "-"), ("common", "24 banan"), ("ways", "1"), ("way 0", "0 1 2 3 4"),
            ("other nab", "ok"), ("ways", "0"), ("row -", "ok"), ("show", "- nab"), ("undo", "none"), ("put z", "ok"),
            ("show", "z nab"), ("common", "1 -"), ("parts", "z"), ("undo", "ok"), ("undo", "none"),
        ])

    def test_a_new_row_is_put_letter_by_letter(self):
        for row in ["a", "banana", "ab" * 40, SMALL * 3]:
            desk = Desk()
            desk.say("row abc")
            desk.say("put q")
            desk.say("row " + row)
            self.assertEqual(undone(desk), row)
            self.assertEqual(desk.say("undo"), "none")

    def test_rows_of_eighty(self):
        row = (SMALL * 4)[:80]
        desk = Desk()
        self.say_all(desk, [
            ("row " + row, "ok"), ("other " + row, "ok"), ("show", row + " " + row), ("left " + row, "yes"),
            ("ways", "1"), ("way 0", " ".join(str(place) for place in range(80))), ("parts", "-"), ("long 80 0", row),
            ("place " + row, str(place_of(row, row))), ("at " + str(place_of(row, row)), row),
            ("common", str(many_left(row)) + " " + row),
        ])

    def check_desk(self, desk, row, other):
        """That each answer is that of the other modules for the two rows."""
        self.say_all(desk, [
            ("show", word_of(row) + " " + word_of(other)),
            ("many", str(many_left(row))),
            ("lengths", show_list(by_lengths(row))),
            ("left " + word_of(other), "yes" if is_left(row, other) else "no"),
            ("ways", str(many_ways(row, other))),
            ("common", str(many_common(row, other)) + " " + word_of(longest_common(row, other))),
            ("parts", parts(row, other) or "-"),
        ])
        for letters in ["a", "ab", "".join(sorted(set(row))) or "q", SMALL]:
            self.say_all(desk, [
                ("short " + letters, shortest_not_left(row, letters)),
                ("arches " + letters, show_list(arches(row, letters))),
            ])
        for place in [0, many_left(row) // 3, many_left(row) - 1]:
            left = left_at(row, place)
            self.say_all(desk, [("at " + str(place), word_of(left)), ("place " + word_of(left), str(place))])
        for length, many in list(enumerate(by_lengths(row)))[::11]:
            self.say_all(desk, [(f"long {length} {many - 1}", word_of(of_length_at(row, length, many - 1)))])
        for place in sorted({0, many_ways(row, other) // 2, many_ways(row, other) - 1}):
            if 0 <= place < many_ways(row, other):
                self.say_all(desk, [("way " + str(place), show_list(way_at(row, other, place)))])
                self.assertEqual(read_list(desk.say("way " + str(place))), way_at(row, other, place))

    def test_against_the_other_modules(self):
        for row, other in row_pairs()[::4]:
            self.check_desk(desk_of(row, other), row, other)

    def test_after_any_steps(self):
        chance = random.Random(27)
        desk = Desk()
        row = ""
        other = ""
        for step in range(400):
            kind = chance.randrange(100)
            if kind < 60 and len(row) < 80:
                letter = chance.choice("abcz")
                self.assertEqual(desk.say("put " + letter), "ok")
                row += letter
            elif kind < 85:
                self.assertEqual(desk.say("undo"), "ok" if row else "none")
                row = row[:-1]
            elif kind < 95:
                other = thinned(row, chance.randrange(101)) + chance.choice(["", "", "a"])
                self.assertEqual(desk.say("other " + word_of(other[:80])), "ok")
                other = other[:80]
            else:
                row = "".join(chance.choice("abcz") for _ in range(chance.randrange(30)))
                self.assertEqual(desk.say("row " + word_of(row)), "ok")
            self.assertEqual(desk.say("show"), word_of(row) + " " + word_of(other))
            if step % 10 == 0:
                self.check_desk(desk, row, other)
        self.assertEqual(undone(desk), row)

    def test_two_beside_one_another(self):
        one = desk_of("ab", "cd")
        other = Desk()
        self.assertEqual(other.say("show"), "- -")
        other.say("row xyz")
        other.say("other x")
        self.assertEqual(one.say("show"), "ab cd")
        one.say("undo")
        one.say("other -")
        self.assertEqual(one.say("show"), "a -")
        self.assertEqual(other.say("show"), "xyz x")
        self.assertEqual(Desk().say("show"), "- -")


class RefusedTest(DeskCase):
    def desks(self):
        return [Desk(), desk_of("banana", "an"), desk_of("ab" * 40, "abba")]

    def test_what_is_no_text(self):
        for desk in self.desks():
            for name, thing in other_things():
                with self.subTest(thing=name):
                    self.refused(desk, NoCommand, thing)
            for thing in [["show"], ("show",), {"show": 1}, b"show", [["put", "a"]], ["put", "a"]]:
                self.refused(desk, NoCommand, thing)

    def test_no_such_words(self):
        desk = desk_of("banana", "an")
        for words in ["", " ", "  ", "\n", "-", "a", "0", "banana", "quit", "shows", "sho", "Show", "SHOW", "show\n",
                      "\nshow", "un do", "rows a", "longs 0 0", "put-a", "puta", "row\nabc", "show\nshow", "x" * 3000]:
            self.refused(desk, NoCommand, words)

    def test_each_sign_ahead_and_behind(self):
        desk = desk_of("banana", "an")
        signs = [chr(code) for code in range(ord(" "), ord("~") + 1)] + ["\n"]
        for words, sign in itertools.product(ALONE, signs):
            if words + sign not in ALL:
                with self.assertRaises(NoCommand):
                    desk.say(words + sign)
            with self.assertRaises(NoCommand):
                desk.say(sign + words)
        self.assertEqual(desk.say("show"), "banana an")

    def test_words_too_many(self):
        desk = desk_of("banana", "an")
        for words in ALONE:
            for more in [" ", " a", " -", " 0", " a b", "  ", " \n"]:
                self.refused(desk, NoCommand, words + more)
        for words in WITH_ROW + WITH_LETTERS + ["put"]:
            for more in [" a b", " a ", " a  ", " a a", "  a", " - -", " -  ", "  "]:
                self.refused(desk, NoCommand, words + more)
        for words in WITH_NUMBER:
            for more in [" 0 0", " 0 ", "  0", " 0 a", " 0  "]:
                self.refused(desk, NoCommand, words + more)
        for more in [" 0 0 0", " 0 0 ", " 0  0", "  0 0", " 0 0 -"]:
            self.refused(desk, NoCommand, "long" + more)

    def test_words_too_few(self):
        desk = desk_of("banana", "an")
        for words in WITH_ROW + WITH_NUMBER + WITH_LETTERS + ["put", "long", "long 0", "long a"]:
            self.refused(desk, NoCommand, words)
        for words in WITH_ROW + WITH_NUMBER + ["long", "long 0"]:
            self.refused(desk, NoCommand, words + " ")

    def test_blanks_ahead_and_behind(self):
        desk = desk_of("banana", "an")
        for words in ["show", "row abc", "other abc", "put a", "undo", "left a", "at 0", "long 0 0", "short a"]:
            for wrong in [" " + words, words + " ", words.replace(" ", "  "), words + "\n", "\n" + words]:
                if wrong != words and wrong not in ["put a\n", "short a\n"]:
                    self.refused(desk, NoCommand, wrong)

    def test_no_row_in_the_words(self):
        desk = desk_of("banana", "an")
        wrong = [text for text in wrong_texts() if text != "-"]
        wrong += ["", "--", "-a", "a-", "A", "Banana", "banan4", "a" * 81, "ab" * 50, "a" * 2000, SMALL * 4, "a\nb"]
        for word, text in itertools.product(WITH_ROW, wrong):
            with self.subTest(words=word + " " + text[:90]):
                with self.assertRaises(NoCommand):
                    desk.say(word + " " + text)
                self.assertEqual(desk.say("show"), "banana an")
        self.assertEqual(undone(desk), "banana")

    def test_no_number_in_the_words(self):
        for desk in self.desks():
            for text in WRONG_NUMBERS:
                for words in ["at ", "way ", "long 0 ", "long 99 "]:
                    self.refused(desk, NoCommand, words + text)
                for behind in [" 0", " 999", " 01", " "]:
                    self.refused(desk, NoCommand, "long " + text + behind)

    def test_no_place(self):
        for desk, row, other in [(Desk(), "", ""), (desk_of("banana", "an"), "banana", "an"),
                                 (desk_of("abc", "z"), "abc", "z"), (desk_of("ab" * 40, "ab"), "ab" * 40, "ab")]:
            for more in [0, 1, 2, 2 ** 64, 10 ** 29]:
                self.refused(desk, NoPlace, "at " + str(many_left(row) + more))
                self.refused(desk, NoPlace, "way " + str(many_ways(row, other) + more))
                self.refused(desk, NoPlace, "long " + str(len(row) + 1 + more) + " 0")
                for length, many in list(enumerate(by_lengths(row)))[::9]:
                    self.refused(desk, NoPlace, f"long {length} {many + more}")
            self.refused(desk, NoPlace, "at " + "9" * 30)
            self.refused(desk, NoPlace, "way " + "9" * 30)
            self.refused(desk, NoPlace, "long " + "9" * 30 + " " + "9" * 30)

    def test_no_row(self):
        desk = desk_of("banana", "an")
        for row in ["nb", "bananas", "z", "aaaa", "a" * 80, "abanana"]:
            self.refused(desk, NoRow, "place " + row)
        self.refused(Desk(), NoRow, "place a")

    def test_no_letter(self):
        for desk in self.desks():
            for name, thing in wrong_single_letters():
                if isinstance(thing, str) and " " not in thing:
                    with self.subTest(thing=name):
                        with self.assertRaises(NoLetter):
                            desk.say("put " + thing)
                elif isinstance(thing, str):
                    with self.subTest(thing=name):
                        with self.assertRaises(NoCommand):
                            desk.say("put " + thing)
            self.refused(desk, NoLetter, "put ")
            self.refused(desk, NoLetter, "put -")
            self.refused(desk, NoLetter, "put \n")

    def test_a_letter_too_many(self):
        desk = desk_of("ab" * 40, "a")
        for letter in SMALL:
            with self.assertRaises(NoLetter):
                desk.say("put " + letter)
        self.refused(desk, NoLetter, "put a")
        self.refused(desk, NoCommand, "put a b")
        self.assertEqual(desk.say("undo"), "ok")
        self.assertEqual(desk.say("put z"), "ok")
        self.refused(desk, NoLetter, "put a")
        self.assertEqual(undone(desk), "ab" * 39 + "az")

    def test_no_letters(self):
        for desk in self.desks():
            for word in WITH_LETTERS:
                for name, thing in wrong_letters():
                    if isinstance(thing, str):
                        with self.subTest(words=word, thing=name):
                            with self.assertRaises(NoCommand if " " in thing else NoLetters):
                                desk.say(word + " " + thing)
                self.refused(desk, NoLetters, word + " ")
                self.refused(desk, NoLetters, word + " -")
                self.refused(desk, NoLetters, word + " ba")

    def test_refused_is_not_undone(self):
        desk = Desk()
        desk.say("row ab")
        for words in ["put", "put AB", "put ", "row A", "row " + "a" * 81, "other B", "undo 1", "at 99", "place zz", None]:
            with self.assertRaises((NoCommand, NoLetter, NoPlace, NoRow)):
                desk.say(words)
        self.assertEqual(undone(desk), "ab")

    def test_refused_again_and_again(self):
        desk = desk_of("banana", "an")
        for _ in range(5):
            for error, words in [(NoCommand, "shown"), (NoCommand, None), (NoCommand, "at 01"), (NoPlace, "at 40"),
                                 (NoRow, "place nb"), (NoPlace, "long 7 0"), (NoPlace, "way 3"), (NoLetters, "short aa"),
                                 (NoLetters, "arches ba"), (NoLetter, "put A"), (NoCommand, "row A")]:
                self.refused(desk, error, words)
            self.assertEqual(desk.say("put s"), "ok")
            self.assertEqual(desk.say("undo"), "ok")
            self.assertEqual(desk.say("show"), "banana an")

    def test_things_stay_as_they_were(self):
        things = ["show", ["b"], {"c": 1}]
        with self.assertRaises(NoCommand):
            Desk().say(things)
        self.assertEqual(things, ["show", ["b"], {"c": 1}])


if __name__ == "__main__":
    unittest.main()
