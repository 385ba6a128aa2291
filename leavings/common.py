"""The rows left of both of two rows: how many, the first of the longest, and how many are as long."""

from leavings.steps import onward


def many_common(one, other):
    """How many unlike rows are left of both, the one of no letters too."""
    many = {}
    for pair, steps in onward(one, other).items():
        # An unlike row is counted once, by the least places there are for it in both.
        many[pair] = 1 + sum([many[step] for step in steps])
    return many[(0, 0)]


def longest_common(one, other):
    """The first, as texts are ordered, of the longest rows left of both."""
    longest = {}
    for pair, steps in onward(one, other).items():
        rows = [one[step[0] - 1] + longest[step] for step in steps]
        # The rows stand in their order, and max takes the first of those that are as long.
        longest[pair] = max(rows, key=len, default="")
    return longest[(0, 0)]


def many_longest(one, other):
    """How many unlike rows left of both are as long as the longest."""
    lengths = {}
    many = {}
    for pair, steps in onward(one, other).items():
        lengths[pair] = max([1 + lengths[step] for step in steps], default=0)
        many[pair] = sum([many[step] for step in steps if lengths[step] + 1 == lengths[pair]])
        if not steps:
            many[pair] = 1
    return many[(0, 0)]
