"""The ways by which a row is left: promises 12 and 13."""

import itertools
import math
import unittest

from leavings.errors import NoPlace
from leavings.rows import first_places, is_left, last_places
from leavings.ways import many_ways, way_at
from samples import long_rows, shaped_rows, short_rows, some_numbers, thinned, wrong_places


def all_ways(row, other):
    """All ways by which the other one is left of the row, by trying each list of places."""
    found = []
    for places in itertools.combinations(range(len(row)), len(other)):
        if "".join(row[place] for place in places) == other:
            found.append(list(places))
    return sorted(found)


def many_from_the_front(row, other):
    """How many ways there are, by how many there are for each beginning of the other one."""
    many = [1] + [0] * len(other)
    for letter in row:
        for at in reversed(range(len(other))):
            if other[at] == letter:
                many[at + 1] += many[at]
    return many[-1]


def pairs():
    """Rows and others that are left of them, of few and of many ways."""
    found = []
    for row in shaped_rows() + long_rows():
        others = {"", row, row[:1], row[-1:], row[::2], row[1::3]} | {thinned(row, share) for share in [5, 30, 60, 95]}
        found += [(row, other) for other in sorted(others)]
    return found


class WaysTest(unittest.TestCase):
    def test_plain_ones(self):
        wanted = [[1, 2], [1, 4], [3, 4]]
        self.assertEqual(many_ways("banana", "an"), 3)
        self.assertEqual([way_at("banana", "an", place) for place in range(3)], wanted)

    def test_row_of_none(self):
        for row in ["", "a", "banana", "a" * 80]:
            self.assertEqual(many_ways(row, ""), 1)
            self.assertEqual(way_at(row, "", 0), [])

    def test_row_itself(self):
        for row in shaped_rows():
            self.assertEqual(many_ways(row, row), 1)
            self.assertEqual(way_at(row, row, 0), list(range(len(row))))

    def test_each_short_one(self):
        tried = list(itertools.product(short_rows("ab", 6), short_rows("ab", 6)))
        tried += list(itertools.product(short_rows("abc", 4), short_rows("abc", 4)))
        tried += [("mississippi", other) for other in ["issi", "mip", "sss", "ppp", "msp", "iiii", "mississippi"]]
        for row, other in tried:
            wanted = all_ways(row, other)
            self.assertEqual(many_ways(row, other), len(wanted), (row, other))
            told = [way_at(row, other, place) for place in range(len(wanted))]
            self.assertEqual(told, wanted, (row, other))
            for wrong in [len(wanted), len(wanted) + 1, -1]:
                with self.assertRaises(NoPlace):
                    way_at(row, other, wrong)

    def test_how_many_of_long_ones(self):
        for row, other in pairs():
            many = many_ways(row, other)
            self.assertIs(type(many), int)
            self.assertEqual(many, many_from_the_front(row, other), (row, other))
            self.assertEqual(many, many_ways(row[::-1], other[::-1]), (row, other))

    def test_other_long_ones(self):
        rows = long_rows()
        for row, other in itertools.product(rows, rows):
            many = many_ways(row, other)
            self.assertEqual(many, many_from_the_front(row, other), (row, other))
            self.assertEqual(many > 0, is_left(row, other), (row, other))

    def test_one_letter(self):
        for length in range(81):
            self.assertEqual(many_ways("q" * 80, "q" * length), math.comb(80, length))

    def check_way(self, row, other, way):
        self.assertIs(type(way), list)
        for place in way:
            self.assertIs(type(place), int)
        self.assertEqual(way, sorted(set(way)))
        self.assertEqual("".join(row[place] for place in way), other)
        self.assertTrue(all(0 <= place < len(row) for place in way))

    def test_ways_of_long_ones(self):
        for row, other in pairs():
            ahead = None
            for place in some_numbers(many_ways(row, other), 8):
                way = way_at(row, other, place)
                self.check_way(row, other, way)
                if ahead is not None:
                    self.assertLess(ahead, way, (row, other, place))
                ahead = way

    def test_ends(self):
        for row, other in pairs():
            self.assertEqual(way_at(row, other, 0), first_places(row, other), (row, other))
            # The greatest list has the greatest place there can be for each letter.
            self.assertEqual(way_at(row, other, many_ways(row, other) - 1), last_places(row, other), (row, other))

    def test_so_manieth_of_one_letter(self):
        wanted = [list(places) for places in itertools.combinations(range(80), 2)]
        self.assertEqual([way_at("q" * 80, "qq", place) for place in range(len(wanted))], wanted)
        wanted = [list(places) for places in itertools.combinations(range(80), 79)]
        self.assertEqual([way_at("q" * 80, "q" * 79, place) for place in range(len(wanted))], wanted)

    def test_not_left(self):
        for row, other in [("", "a"), ("a", "b"), ("a", "aa"), ("ab", "ba"), ("banana", "nb"), ("a" * 80, "a" * 81)]:
            self.assertEqual(many_ways(row, other), 0)
            for name, thing in wrong_places(0) + [("nought", 0), ("one", 1)]:
                with self.subTest(row=row, other=other, thing=name):
                    with self.assertRaises(NoPlace):
                        way_at(row, other, thing)

    def test_no_place(self):
        for row, other in [("", ""), ("a", ""), ("a", "a"), ("banana", "an"), ("ab" * 40, "ab" * 20), ("a" * 80, "aa")]:
            for name, thing in wrong_places(many_ways(row, other)):
                with self.subTest(row=row, other=other, thing=name):
                    with self.assertRaises(NoPlace):
                        way_at(row, other, thing)

    def test_refused_again_and_again(self):
        for thing in [3, -1, True, False, None, "1", [], (), {}]:
            for _ in range(5):
                with self.assertRaises(NoPlace):
                    way_at("banana", "an", thing)
                self.assertEqual(way_at("banana", "an", 2), [3, 4])
                self.assertEqual(many_ways("banana", "an"), 3)

    def test_told_lists_are_the_askers_own(self):
        for row, other, place in [("banana", "an", 1), ("banana", "", 0), ("", "", 0), ("ab" * 40, "ab" * 20, 10 ** 9)]:
            told = way_at(row, other, place)
            kept = list(told)
            again = way_at(row, other, place)
            self.assertIsNot(told, again)
            told.append(99)
            told[0] = -7
            self.assertEqual(again, kept)
            self.assertEqual(way_at(row, other, place), kept)

    def test_things_stay_as_they_were(self):
        things = [0, ["b"], {"c": 1}]
        with self.assertRaises(NoPlace):
            way_at("abc", "a", things)
        self.assertEqual(things, [0, ["b"], {"c": 1}])


if __name__ == "__main__":
    unittest.main()
