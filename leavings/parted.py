"""What parts two rows: the first of the shortest rows left of the one and not of the other."""

from leavings.nexts import next_table
from leavings.steps import onward


def parts(one, other):
    """The first, as texts are ordered, of the shortest rows left of the one and not of the other, or None."""
    one_table = next_table(one)
    other_table = next_table(other)
    shortest = {}
    for pair, steps in onward(one, other).items():
        alone = first_alone(one_table[pair[0]], other_table[pair[1]])
        rows = [one[step[0] - 1] + shortest[step] for step in steps if shortest[step] is not None]
        # The rows stand in their order, and min takes the first of those that are as short.
        shortest[pair] = alone if alone is not None else min(rows, key=len, default=None)
    return shortest[(0, 0)]


def first_alone(heads, others):
    """The first letter that the heads have and the others haven't, or None."""
    return min([letter for letter in heads if letter not in others], default=None)
