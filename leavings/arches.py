"""Arches: papers that show of how many letters all rows are left of a row, and a small checker of papers."""

from leavings.errors import NoLetters
from leavings.nexts import next_table
from leavings.rows import is_letters
from leavings.steps import is_place


def arches(row, letters):
    """The paper of the row and the letters with the most arches, each end the least there can be; NoLetters."""
    if not is_letters(letters):
        raise NoLetters("no text of unlike small letters, rising")
    table = next_table(row)
    ends = []
    at = 0
    while has_all(table[at], letters):
        at = max([table[at][letter] for letter in letters]) + 1
        ends.append(at)
    return ends


def shows(row, letters, thing):
    """How many arches the thing shows, or None where it is no paper of the row and the letters; NoLetters."""
    if not is_letters(letters):
        raise NoLetters("no text of unlike small letters, rising")
    if not isinstance(thing, list):
        return None
    start = 0
    for end in thing:
        # An end that isn't behind the one ahead leaves an arch without any letter.
        if not is_place(end, len(row) + 1) or not has_all(row[start:end], letters):
            return None
        start = end
    return len(thing)


def has_all(found, letters):
    """Whether each of the letters is among those found."""
    return all(letter in found for letter in letters)
