"""How many unlike rows are left of a row, in all and of each length."""

from leavings.nexts import next_table


def many_left(row):
    """How many unlike rows are left of the row, the one of no letters and itself too."""
    return many_from(next_table(row))[0]


def by_lengths(row):
    """How many unlike rows of each length, from 0 to the row's, are left of it."""
    return [many[0] for many in many_of_lengths(row, next_table(row))]


def many_from(table):
    """For each place of the table of next places, how many unlike rows are left from there on."""
    many = [1] * len(table)
    for place in reversed(range(len(table))):
        # An unlike row is counted once, by the least places there are for it.
        many[place] = 1 + sum([many[found + 1] for found in table[place].values()])
    return many


def many_of_lengths(row, table):
    """For each length from 0 to the row's, a list: how many rows of it are left from each place on."""
    lists = [[1] * len(table)]
    for length in range(len(row)):
        lists.append(one_longer(row, table, lists[length]))
    return lists


def one_longer(row, table, shorter):
    """How many rows of a length are left from each place on, where those of one letter less are as many."""
    longer = [0] * len(table)
    for place in reversed(range(len(row))):
        longer[place] = longer[place + 1] + shorter[place + 1]
        again = table[place + 1].get(row[place])
        if again is not None:
            # Those that begin with a later one of the same letter would be counted twice.
            longer[place] -= shorter[again + 1]
    return longer
