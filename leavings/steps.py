"""Steps that several modules take: along the rows left of one row or of two, by numbers and by letters."""

from leavings.nexts import next_table


def is_place(thing, many):
    """Whether a thing is a whole number from 0 on that is less than how many there are."""
    # A truth is an int for Python, but no whole number here.
    return isinstance(thing, int) and not isinstance(thing, bool) and 0 <= thing < many


def in_order(heads):
    """The places of the letters that may come next, in the order of these letters."""
    return [place for letter, place in sorted(heads.items())]


def pick(places, many, number):
    """Which of the places the one of that number goes on from, and its number among those that do.

    many tells for each place how many there are from there on, so those that use
    a place are as many as those from the place behind it on.
    """
    at = 0
    while number >= many[places[at] + 1]:
        number -= many[places[at] + 1]
        at += 1
    return places[at], number


def many_ahead(heads, many, letter):
    """How many of those that go on with one of the heads' letters do so with a lesser one than the letter."""
    return sum(many[place + 1] for head, place in heads.items() if head < letter)


def onward(one, other):
    """For pairs of places, one of each row: the pairs behind the next letter that both may go on with.

    A pair's onward ones stand in the order of their letters. The pairs are those behind
    a letter that both rows have there, the ends first, and the beginning of both at last.
    """
    one_table = next_table(one)
    other_table = next_table(other)
    letters = sorted(set(one) & set(other))
    found = {}
    for place, spot in meetings(one, other):
        heads = one_table[place]
        tails = other_table[spot]
        found[(place, spot)] = [
            (heads[letter] + 1, tails[letter] + 1) for letter in letters if letter in heads and letter in tails
        ]
    return found


def meetings(one, other):
    """The pairs of places behind a letter that both rows have there, the ends first, then (0, 0)."""
    pairs = []
    for place in reversed(range(len(one))):
        for spot in reversed(range(len(other))):
            if one[place] == other[spot]:
                pairs.append((place + 1, spot + 1))
    pairs.append((0, 0))
    return pairs
