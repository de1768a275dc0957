"""Gaps of 1 and glasses of -1: the one row of them that has a told table."""

from roundglass.units import refuse_beyond, whole_entries


def most_often(one, other):
    # How often the one pair can be taken from the other, with no number below 0.
    return min([there // own for own, there in zip(one, other) if own > 0])


def taken_from(one, other, often):
    return [there - often * own for own, there in zip(one, other)]


def spread(table):
    a, b, c, d = whole_entries(table)
    if min(a, b, c, d) < 0:
        return None
    # A gap ahead adds the first pair to the second, a glass the second to the first. So the greater one tells which.
    first = [a, c]
    second = [b, d]
    runs = []
    count = 0
    while first != [1, 0] or second != [0, 1]:
        gaps = most_often(first, second)
        if gaps > 0:
            second = taken_from(first, second, gaps)
            runs.append(("gap", gaps))
        else:
            glasses = most_often(second, first)
            first = taken_from(second, first, glasses)
            runs.append(("glass", glasses))
        count += runs[-1][1]
        refuse_beyond(count)
    return runs
