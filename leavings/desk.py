"""The desk: a growing row and another row, told rows of words and answering each by a text."""

from leavings.arches import arches
from leavings.common import longest_common, many_common
from leavings.errors import NoCommand
from leavings.growing import MOST_LETTERS, Growing
from leavings.lengths import of_length_at
from leavings.manieth import left_at, place_of
from leavings.notes import is_number, show_list
from leavings.parted import parts
from leavings.rows import is_row
from leavings.shortest import shortest_not_left
from leavings.ways import many_ways, way_at


def read_row(word):
    """The row that a word tells; NoCommand."""
    if word == "-":
        return ""
    if not word or not is_row(word) or len(word) > MOST_LETTERS:
        raise NoCommand("no row in these words")
    return word


def read_number(word):
    """The number that a word tells; NoCommand."""
    if not is_number(word):
        raise NoCommand("no number in these words")
    return int(word)


def show_row(row):
    """The word that tells a row, - of none."""
    return row if row else "-"


def do_row(desk, row):
    grown = Growing()
    for letter in row:
        grown.put(letter)
    desk.growing = grown
    return "ok"


def do_other(desk, row):
    desk.second = row
    return "ok"


def do_put(desk, letter):
    desk.growing.put(letter)
    return "ok"


def do_undo(desk):
    return "ok" if desk.growing.undo() else "none"


def do_show(desk):
    return show_row(desk.growing.row()) + " " + show_row(desk.second)


def do_many(desk):
    return str(desk.growing.many())


def do_lengths(desk):
    return show_list(desk.growing.lengths())


def do_left(desk, row):
    return "yes" if desk.growing.has(row) else "no"


def do_at(desk, place):
    return show_row(left_at(desk.growing.row(), place))


def do_place(desk, row):
    return str(place_of(desk.growing.row(), row))


def do_long(desk, length, place):
    return show_row(of_length_at(desk.growing.row(), length, place))


def do_ways(desk):
    return str(many_ways(desk.growing.row(), desk.second))


def do_way(desk, place):
    return show_list(way_at(desk.growing.row(), desk.second, place))


def do_common(desk):
    row = desk.growing.row()
    return str(many_common(row, desk.second)) + " " + show_row(longest_common(row, desk.second))


def do_parts(desk):
    parted = parts(desk.growing.row(), desk.second)
    return "-" if parted is None else parted


def do_short(desk, letters):
    return shortest_not_left(desk.growing.row(), letters)


def do_arches(desk, letters):
    return show_list(arches(desk.growing.row(), letters))


# For each first word what is done, and for each word behind it a sign: R for a row, N for a number,
# S for any signs, which are refused, where they are, by what is done.
COMMANDS = {
    "row": (do_row, "R"),
    "other": (do_other, "R"),
    "put": (do_put, "S"),
    "undo": (do_undo, ""),
    "show": (do_show, ""),
    "many": (do_many, ""),
    "lengths": (do_lengths, ""),
    "left": (do_left, "R"),
    "at": (do_at, "N"),
    "place": (do_place, "R"),
    "long": (do_long, "NN"),
    "ways": (do_ways, ""),
    "way": (do_way, "N"),
    "common": (do_common, ""),
    "parts": (do_parts, ""),
    "short": (do_short, "S"),
    "arches": (do_arches, "S"),
}


def split_words(words):
    """The words of a row of words, the first of which is known; NoCommand."""
    if not isinstance(words, str):
        raise NoCommand("no text")
    found = words.split(" ")
    if found[0] not in COMMANDS:
        raise NoCommand("no such command")
    return found


def read_values(kinds, words):
    """What the words tell, each as its kind is read; NoCommand."""
    if len(words) != len(kinds):
        raise NoCommand("words too few or too many")
    return [read_word(kind, word) for kind, word in zip(kinds, words)]


def read_word(kind, word):
    """What a word of the kind tells; NoCommand."""
    if kind == "R":
        return read_row(word)
    if kind == "N":
        return read_number(word)
    return word


class Desk:
    """A desk that keeps a growing row and another row, both of no letters at first."""

    def __init__(self):
        self.growing = Growing()
        self.second = ""

    def say(self, words):
        """The answer to a row of words; NoCommand, then what the command itself refuses."""
        name, *rest = split_words(words)
        action, kinds = COMMANDS[name]
        values = read_values(kinds, rest)
        return action(self, *values)
