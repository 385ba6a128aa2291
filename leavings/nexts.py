"""The next place of a letter in a row, from a place on."""


def next_at(row, place, letter):
    """The least place of the row, from the place on, that has the letter, or None."""
    # A place below 0 would count from the end; from there on is the whole row.
    for at in range(max(place, 0), len(row)):
        if row[at] == letter:
            return at
    return None


class Nexts:
    """The next places of one row, worked out once and asked often."""

    def __init__(self, row):
        self.table = next_table(row)

    def at(self, place, letter):
        """The least place of the row, from the place on, that has the letter, or None."""
        # Beyond the ends the answer is that of the nearer end, as next_at tells it.
        nearest = min(max(place, 0), len(self.table) - 1)
        return self.table[nearest].get(letter)


def next_table(row):
    """For each place from 0 to the row's length, the next place of each letter that comes yet."""
    ahead = {}
    table = [ahead]
    for place in reversed(range(len(row))):
        # A new dict for each place, as the places behind keep theirs.
        ahead = dict(ahead)
        ahead[row[place]] = place
        table.append(ahead)
    table.reverse()
    return table
