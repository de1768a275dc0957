"""Rays (height, slope), and tables (a, b, c, d) that lead them."""

from roundglass.ratios import NOUGHT, ONE, is_ratio, minus, opposite, over, plus, times

LEVEL_RAY = ((1, 1), (0, 1))
AXIS_RAY = ((0, 1), (1, 1))
SELF = ((1, 1), (0, 1), (0, 1), (1, 1))


def are_ratios(thing, count):
    return isinstance(thing, tuple) and len(thing) == count and all([is_ratio(entry) for entry in thing])


def is_ray(thing):
    return are_ratios(thing, 2)


def is_table(thing):
    if not are_ratios(thing, 4):
        return False
    a, b, c, d = thing
    return minus(times(a, d), times(b, c)) == ONE


def led(table, ray):
    a, b, c, d = table
    y, u = ray
    return (plus(times(a, y), times(b, u)), plus(times(c, y), times(d, u)))


def by_columns(first, second):
    # A table is told by where it leads (1, 0) and (0, 1): these are its columns.
    return (first[0], second[0], first[1], second[1])


def behind(one, other):
    a, b, c, d = one
    return by_columns(led(other, (a, c)), led(other, (b, d)))


def undone(table):
    a, b, c, d = table
    return (d, opposite(b), opposite(c), a)


def turned(table):
    a, b, c, d = table
    return (d, b, c, a)


def cross(one, other):
    y, u = one
    z, w = other
    return minus(times(y, w), times(z, u))


def grown(ray, share):
    return (times(ray[0], share), times(ray[1], share))


def axis_ahead(ray):
    # How far on the ray is at height nought; a level ray comes there nowhere.
    y, u = ray
    if u == NOUGHT:
        return None
    return opposite(over(y, u))


def power(table, n):
    a, b, c, d = table
    # As a d less b c is 1, a table twice is a + d of it less the one that leads each ray to itself.
    # So each power is x of the table less w of that one; the numbers stay far smaller than by entries.
    t = plus(a, d)
    x = NOUGHT
    w = opposite(ONE)
    for step in range(n):
        x, w = minus(times(t, x), w), x
    return (minus(times(a, x), w), times(b, x), times(c, x), minus(times(d, x), w))
