"""The unlike rows of one length left of a row, ordered as texts are: the so-manieth one and the place of one."""

from leavings.counted import many_of_lengths
from leavings.errors import NoPlace, NoRow
from leavings.nexts import next_table
from leavings.rows import first_places, is_left
from leavings.steps import in_order, is_place, many_ahead, pick


def of_length_at(row, length, place):
    """The row at the place among the unlike rows of the length left of the row; NoPlace."""
    table = next_table(row)
    lists = many_of_lengths(row, table)
    if not is_place(length, len(lists)) or not is_place(place, lists[length][0]):
        raise NoPlace("no place of a row of this length that is left")
    letters = []
    at = 0
    number = place
    for missing in reversed(range(length)):
        found, number = pick(in_order(table[at]), lists[missing], number)
        letters.append(row[found])
        at = found + 1
    return "".join(letters)


def place_in_length(row, thing):
    """The place of the thing among the unlike rows of its length left of the row; NoRow."""
    if not is_left(row, thing):
        raise NoRow("no row that is left")
    table = next_table(row)
    lists = many_of_lengths(row, table)
    number = 0
    at = 0
    missing = len(thing)
    for found in first_places(row, thing):
        missing -= 1
        number += many_ahead(table[at], lists[missing], row[found])
        at = found + 1
    return number
