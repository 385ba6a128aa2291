"""Lists of numbers written as texts, and read back."""

from leavings.errors import NoText

MOST_FIGURES = 30


def show_list(numbers):
    """The text of a list of numbers: the numbers parted by blanks, or - of none."""
    if not numbers:
        return "-"
    return " ".join([str(number) for number in numbers])


def read_list(text):
    """The list of numbers that a text tells; NoText of any other text."""
    if not isinstance(text, str):
        raise NoText("no text")
    if text == "-":
        return []
    words = text.split(" ")
    if not all(is_number(word) for word in words):
        raise NoText("no text of a list of numbers")
    return [int(word) for word in words]


def is_number(word):
    """Whether a text is one to thirty figures, without a nought ahead but for 0 itself."""
    if not 1 <= len(word) <= MOST_FIGURES:
        return False
    # Every figure is compared for itself: isdigit() would take other signs, too.
    return all("0" <= figure <= "9" for figure in word) and (word == "0" or word[0] != "0")
