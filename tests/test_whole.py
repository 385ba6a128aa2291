"""The whole: that all modules tell one thing (promise 2), and what promise 1 says of lists and refusals."""

import unittest

from leavings.arches import arches, shows
from leavings.common import longest_common, many_common, many_longest
from leavings.counted import by_lengths, many_left
from leavings.desk import Desk
from leavings.errors import LeaveError, NoLetter, NoLetters, NoPlace, NoRow
from leavings.growing import Growing
from leavings.lengths import of_length_at, place_in_length
from leavings.manieth import left_at, place_of
from leavings.notes import read_list, show_list
from leavings.parted import parts
from leavings.rows import first_places, is_left, last_places
from leavings.shortest import all_left_to, many_shortest, shortest_not_left
from leavings.ways import many_ways, way_at
from samples import SMALL, long_rows, row_pairs, shaped_rows, short_rows, some_letters, some_numbers, thinned

SHORT = short_rows("ab", 5) + ["banana", "abcabcab", "aabbaabb", "zyxwv", "mississip"]


def grown(row):
    growing = Growing()
    for letter in row:
        growing.put(letter)
    return growing


def desk_of(row, other):
    desk = Desk()
    desk.say("row " + (row or "-"))
    desk.say("other " + (other or "-"))
    return desk


def all_by_places(row):
    return [left_at(row, place) for place in range(many_left(row))]


class OneThingTest(unittest.TestCase):
    def test_counts(self):
        for row in shaped_rows() + long_rows():
            many = many_left(row)
            lengths = by_lengths(row)
            growing = grown(row)
            desk = desk_of(row, "")
            self.assertEqual(sum(lengths), many, row)
            self.assertEqual((growing.many(), growing.lengths()), (many, lengths), row)
            self.assertEqual((desk.say("many"), read_list(desk.say("lengths"))), (str(many), lengths), row)
            self.assertEqual(place_of(row, left_at(row, many - 1)), many - 1)
            with self.assertRaises(NoPlace):
                left_at(row, many)
            for length, of_length in enumerate(lengths):
                if length % 9 == 0:
                    last = of_length_at(row, length, of_length - 1)
                    self.assertEqual(place_in_length(row, last), of_length - 1)
                    with self.assertRaises(NoPlace):
                        of_length_at(row, length, of_length)

    def test_both_orders_have_the_same_rows(self):
        for row in SHORT:
            left = all_by_places(row)
            self.assertEqual(left, sorted(set(left)))
            by_length = []
            for length, many in enumerate(by_lengths(row)):
                by_length += [of_length_at(row, length, place) for place in range(many)]
            self.assertEqual(by_length, sorted(left, key=lambda one: (len(one), one)), row)

    def test_ways_of_all_that_is_left(self):
        for row in SHORT:
            # Each letter is left out or not: so many ways there are in all.
            self.assertEqual(sum(many_ways(row, one) for one in all_by_places(row)), 2 ** len(row), row)

    def test_what_is_left_has_ways_and_a_place(self):
        for row, other in row_pairs():
            left = is_left(row, other)
            self.assertEqual(many_ways(row, other) > 0, left, (row, other))
            self.assertEqual(first_places(row, other) is not None, left, (row, other))
            self.assertEqual(last_places(row, other) is not None, left, (row, other))
            self.assertEqual(grown(row).has(other), left, (row, other))
            self.assertEqual(many_common(row, other) == many_left(other), left, (row, other))
            self.assertEqual(longest_common(row, other) == other, left, (row, other))
            self.assertEqual(parts(other, row) is None, left, (row, other))
            self.check_refusals(row, other, left)

    def check_refusals(self, row, other, left):
        if left:
            self.assertEqual(left_at(row, place_of(row, other)), other)
            self.assertEqual(of_length_at(row, len(other), place_in_length(row, other)), other)
            self.assertEqual(way_at(row, other, 0), first_places(row, other))
            self.assertEqual(way_at(row, other, many_ways(row, other) - 1), last_places(row, other))
        else:
            for tell in [place_of, place_in_length]:
                with self.assertRaises(NoRow):
                    tell(row, other)
            with self.assertRaises(NoPlace):
                way_at(row, other, 0)

    def test_common_ones(self):
        for one in SHORT[::5]:
            for other in SHORT[1::5]:
                common = [row for row in all_by_places(one) if is_left(other, row)]
                longest = longest_common(one, other)
                self.assertEqual(many_common(one, other), len(common))
                self.assertIn(longest, common)
                as_long = [row for row in common if len(row) == len(longest)]
                self.assertEqual(as_long[0], longest)
                self.assertEqual(many_longest(one, other), len(as_long))
                self.assertEqual(max(len(row) for row in common), len(longest))

    def test_common_ones_and_a_length(self):
        for one, other in row_pairs():
            # No more are common than are left of either, of the longest ones too.
            longest = len(longest_common(one, other))
            self.assertLessEqual(many_common(one, other), min(many_left(one), many_left(other)))
            self.assertLessEqual(many_longest(one, other), min(by_lengths(one)[longest], by_lengths(other)[longest]))

    def test_what_is_not_left(self):
        for row in shaped_rows() + long_rows():
            for letters in some_letters(row):
                first = shortest_not_left(row, letters)
                length = all_left_to(row, letters)
                self.assertFalse(is_left(row, first))
                self.assertEqual(many_ways(row, first), 0)
                self.assertFalse(grown(row).has(first))
                with self.assertRaises(NoRow):
                    place_of(row, first)
                self.assertEqual(len(arches(row, letters)), length)
                self.assertEqual(shows(row, letters, arches(row, letters)), length)
                alone = "".join(letter for letter in row if letter in letters)
                counts = by_lengths(alone) + [0]
                self.assertEqual(counts[length], len(letters) ** length)
                self.assertEqual(counts[length + 1], len(letters) ** (length + 1) - many_shortest(row, letters))

    def test_what_parts(self):
        for one, other in row_pairs():
            parted = parts(one, other)
            if parted is not None:
                self.assertEqual(left_at(one, place_of(one, parted)), parted)
                self.assertEqual(many_ways(other, parted), 0)
                with self.assertRaises(NoRow):
                    place_of(other, parted)

    def test_desks(self):
        for row in long_rows():
            other = thinned(row, 40)
            desk = desk_of(row, other)
            many = many_left(row)
            for place in some_numbers(many, 3):
                left = desk.say("at " + str(place))
                self.assertEqual(desk.say("place " + left), str(place))
                self.assertEqual(desk.say("left " + left), "yes")
            self.assertEqual(desk.say("common"), desk_of(other, "").say("many") + " " + (other or "-"))
            self.assertEqual(desk.say("ways"), str(many_ways(row, other)))
            self.assertEqual(read_list(desk.say("way 0")), first_places(row, other))
            self.assertEqual(desk.say("left " + (desk.say("short " + SMALL))), "no")
            self.assertEqual(len(read_list(desk.say("arches a"))) + 1, len(desk.say("short a")))

    def test_a_letter_put(self):
        for row in shaped_rows():
            if row:
                # What is left of the row and not of it without its last letter ends with that letter.
                shorter = row[:-1]
                growing = grown(shorter)
                ahead = growing.many()
                growing.put(row[-1])
                self.assertEqual(growing.many(), many_left(row))
                self.assertLess(ahead, growing.many())
                self.assertEqual(parts(row, shorter)[-1], row[-1])
                self.assertTrue(growing.has(parts(row, shorter)))
                self.assertTrue(growing.undo())
                self.assertEqual(growing.many(), ahead)
                self.assertFalse(growing.has(parts(row, shorter)))


class ListsTest(unittest.TestCase):
    def test_told_lists_are_new_ones(self):
        growing = grown("banana")
        tellers = [
            lambda: first_places("banana", "an"), lambda: last_places("banana", "an"), lambda: by_lengths("banana"),
            lambda: way_at("banana", "an", 1), lambda: arches("banana", "an"), growing.lengths,
            lambda: read_list("3 1 2"), lambda: read_list("-"), lambda: arches("", "a"), lambda: way_at("", "", 0),
            lambda: first_places("", ""), lambda: last_places("a", ""), Growing().lengths,
        ]
        for tell in tellers:
            told = tell()
            self.assertIs(type(told), list)
            kept = list(told)
            again = tell()
            self.assertIsNot(told, again)
            told.append("more")
            told[:1] = [-5, -6]
            self.assertEqual(again, kept)
            self.assertEqual(tell(), kept)

    def test_lists_that_are_handed_in_are_not_changed_or_kept(self):
        numbers = [3, 5]
        self.assertEqual(shows("banana", "an", numbers), 2)
        self.assertEqual(show_list(numbers), "3 5")
        self.assertEqual(numbers, [3, 5])
        numbers[:] = [9]
        self.assertEqual(arches("banana", "an"), [3, 5])
        self.assertIsNone(shows("banana", "an", numbers))
        self.assertEqual(show_list([3, 5]), "3 5")

    def test_refused_lists_are_not_changed(self):
        things = [["a"], [3, ["b"]], {"c": 1}]
        kept = [["a"], [3, ["b"]], {"c": 1}]
        calls = [
            lambda: left_at("abc", things), lambda: place_of("abc", things), lambda: of_length_at("abc", things, things),
            lambda: place_in_length("abc", things), lambda: way_at("abc", "a", things), lambda: all_left_to("abc", things),
            lambda: shortest_not_left("abc", things), lambda: many_shortest("abc", things), lambda: arches("abc", things),
            lambda: shows("abc", things, things), lambda: Growing().put(things), lambda: read_list(things),
            lambda: Desk().say(things),
        ]
        for call in calls:
            with self.assertRaises(LeaveError):
                call()
            self.assertEqual(things, kept)

    def test_what_was_told_is_handed_on(self):
        for row in long_rows():
            most = left_at(row, many_left(row) - 1)
            self.assertEqual(many_ways(row, most), many_ways(row, left_at(row, place_of(row, most))))
            self.assertEqual(parts(most, row), None)
            paper = read_list(show_list(arches(row, "ab")))
            self.assertEqual(shows(row, "ab", paper), all_left_to(row, "ab"))


class OneRefusalTest(unittest.TestCase):
    def test_the_one_told_first(self):
        with self.assertRaises(NoLetters):
            shows("abc", "", ["no paper"])
        with self.assertRaises(NoPlace):
            of_length_at("abc", None, None)
        growing = grown("a" * 80)
        for thing in ["a", "A", None, ["a"]]:
            with self.assertRaises(NoLetter):
                growing.put(thing)


if __name__ == "__main__":
    unittest.main()
