"""Rows that grow at their end, letter by letter, and shrink again."""

from leavings.counted import by_lengths, many_left
from leavings.errors import NoLetter
from leavings.rows import is_left, is_row

MOST_LETTERS = 80


class Growing:
    """A growing row, made of no letters."""

    def __init__(self):
        self.letters = ""

    def put(self, letter):
        """Puts a letter at the end; NoLetter of what is no small letter, or of one to a row of 80."""
        if not is_row(letter) or len(letter) != 1:
            raise NoLetter("no small letter")
        if len(self.letters) >= MOST_LETTERS:
            raise NoLetter("a letter too many")
        self.letters += letter

    def undo(self):
        """Undoes the last letter put that isn't undone yet; False where there is none."""
        if not self.letters:
            return False
        self.letters = self.letters[:-1]
        return True

    def row(self):
        """The row of now."""
        return self.letters

    def many(self):
        """How many unlike rows are left of the row of now."""
        return many_left(self.letters)

    def lengths(self):
        """How many unlike rows of each length are left of the row of now."""
        return by_lengths(self.letters)

    def has(self, thing):
        """Whether a thing is a row that is left of the row of now."""
        return is_left(self.letters, thing)
