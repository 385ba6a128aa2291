"""Rows, and what is left of them by leaving letters out."""


def is_row(thing):
    """Whether a thing is a text of small letters, perhaps of none."""
    # Every letter is compared for itself: islower() would take figures and blanks between letters.
    return isinstance(thing, str) and all("a" <= letter <= "z" for letter in thing)


def is_letters(thing):
    """Whether a thing is a text of one or more unlike small letters, rising."""
    if not is_row(thing) or not thing:
        return False
    return all(thing[at] < thing[at + 1] for at in range(len(thing) - 1))


def is_left(row, thing):
    """Whether a thing is a row that comes of the row by leaving letters out."""
    return is_row(thing) and first_places(row, thing) is not None


def first_places(row, other):
    """The least places in the row for the letters of the other one, or None where it isn't left."""
    places = []
    start = 0
    for letter in other:
        place = row.find(letter, start)
        if place < 0:
            return None
        places.append(place)
        start = place + 1
    return places


def last_places(row, other):
    """The greatest places in the row for the letters of the other one, or None where it isn't left."""
    places = []
    end = len(row)
    for letter in reversed(other):
        place = row.rfind(letter, 0, end)
        if place < 0:
            return None
        places.append(place)
        end = place
    places.reverse()
    return places
