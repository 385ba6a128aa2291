"""The unlike rows left of a row, ordered as texts are: the so-manieth one and the place of one."""

from leavings.counted import many_from
from leavings.errors import NoPlace, NoRow
from leavings.nexts import next_table
from leavings.rows import first_places, is_left
from leavings.steps import in_order, is_place, many_ahead, pick


def left_at(row, place):
    """The row at the place among all unlike rows left of the row; NoPlace."""
    table = next_table(row)
    many = many_from(table)
    if not is_place(place, many[0]):
        raise NoPlace("no place of a row that is left")
    letters = []
    at = 0
    number = place
    while number > 0:
        # The row of the letters so far stands ahead of all that go on from it.
        found, number = pick(in_order(table[at]), many, number - 1)
        letters.append(row[found])
        at = found + 1
    return "".join(letters)


def place_of(row, thing):
    """The place of the thing among all unlike rows left of the row; NoRow."""
    if not is_left(row, thing):
        raise NoRow("no row that is left")
    table = next_table(row)
    many = many_from(table)
    number = 0
    at = 0
    for found in first_places(row, thing):
        # One more for the row of the letters so far, which stands ahead.
        number += 1 + many_ahead(table[at], many, row[found])
        at = found + 1
    return number
