"""The ways by which one row is left of another: how many, and the so-manieth one."""

from leavings.errors import NoPlace
from leavings.steps import is_place, pick


def many_ways(row, other):
    """How many ways there are by which the other one is left of the row."""
    return ways_from(row, other)[0][0]


def way_at(row, other, place):
    """The way at the place among those by which the other one is left of the row; NoPlace."""
    lists = ways_from(row, other)
    if not is_place(place, lists[0][0]):
        raise NoPlace("no place of a way")
    way = []
    at = 0
    number = place
    for told, letter in enumerate(other):
        places = [spot for spot in range(at, len(row)) if row[spot] == letter]
        found, number = pick(places, lists[told + 1], number)
        way.append(found)
        at = found + 1
    return way


def ways_from(row, other):
    """For each of 0 to all letters of the other one taken off its beginning, a list:
    in how many ways the rest of it is left of the row from each place on."""
    lists = [[1] * (len(row) + 1)]
    for letter in reversed(other):
        lists.append(ways_with(row, letter, lists[-1]))
    lists.reverse()
    return lists


def ways_with(row, letter, rest):
    """In how many ways the letter and a rest are left from each place on, where the rest is in so many."""
    ways = [0] * len(rest)
    for place in reversed(range(len(row))):
        ways[place] = ways[place + 1]
        if row[place] == letter:
            ways[place] += rest[place + 1]
    return ways
