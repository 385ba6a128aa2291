"""Steps by which ordered rows and ways are found by their numbers, and numbers by them."""


def is_place(thing, many):
    """Whether a thing is a whole number from 0 on that is less than how many there are."""
    # A truth is an int for Python, but no whole number here.
    return isinstance(thing, int) and not isinstance(thing, bool) and 0 <= thing < many


def in_order(heads):
    """The places of the letters that may come next, in the order of these letters."""
    return [place for letter, place in sorted(heads.items())]


def pick(places, many, number):
    """Which of the places the one of that number goes on from, and its number among those that do.

    many tells for each place how many there are from there on, so those that use
    a place are as many as those from the place behind it on.
    """
    at = 0
    while number >= many[places[at] + 1]:
        number -= many[places[at] + 1]
        at += 1
    return places[at], number


def many_ahead(heads, many, letter):
    """How many of those that go on with one of the heads' letters do so with a lesser one than the letter."""
    return sum(many[place + 1] for head, place in heads.items() if head < letter)
