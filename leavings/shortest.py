"""The shortest rows of some letters that aren't left of a row: the first, how many, and what is left below them."""

from leavings.errors import NoLetters
from leavings.nexts import next_table
from leavings.rows import is_letters


def all_left_to(row, letters):
    """The greatest length of which all rows of the letters are left of the row; NoLetters."""
    return len(shortest_not_left(row, letters)) - 1


def shortest_not_left(row, letters):
    """The first, as texts are ordered, of the shortest rows of the letters that aren't left; NoLetters."""
    return shortest_from(row, letters)[0][0]


def many_shortest(row, letters):
    """How many rows of the letters that are as short as the shortest aren't left of the row; NoLetters."""
    return shortest_from(row, letters)[0][1]


def shortest_from(row, letters):
    """For each place, the first of the shortest rows that aren't left from there on, and how many are as short."""
    if not is_letters(letters):
        raise NoLetters("no text of unlike small letters, rising")
    table = next_table(row)
    found = [("", 0)] * len(table)
    for place in reversed(range(len(table))):
        found[place] = shortest_with(table[place], letters, found)
    return found


def shortest_with(heads, letters, found):
    """The first of the shortest rows that aren't left, and how many, where the heads are the next places."""
    missing = [letter for letter in letters if letter not in heads]
    if missing:
        return missing[0], len(missing)
    rests = [found[heads[letter] + 1] for letter in letters]
    # The rows stand in their order, and min takes the first of those that are as short.
    first = min([letter + rest for letter, (rest, many) in zip(letters, rests)], key=len)
    return first, sum([many for rest, many in rests if len(rest) + 1 == len(first)])
