"""Bare benches that have a told table, with the fewest glasses or the fewest gaps."""

from roundglass.ratios import NOUGHT, ONE, less, minus, opposite, over, plus, times
from roundglass.tables import behind

TWO = (2, 1)


def bare(parts):
    # None of these stands between two of one word: with so few parts there would be a bench with fewer.
    return [part for part in parts if part[1] != NOUGHT]


def without_gap_ahead(table, gap):
    return behind((ONE, opposite(gap), NOUGHT, ONE), table)


def without_gap_behind(table, gap):
    return behind(table, (ONE, opposite(gap), NOUGHT, ONE))


def around_one_gap(table):
    # A glass at either end never changes b, so b is the gap; it is above 0 here.
    a, b, c, d = table
    return bare([("glass", over(minus(ONE, a), b)), ("gap", b), ("glass", over(minus(ONE, d), b))])


def by_one_glass(table):
    # None where a gap would be below 0, or where c is 0: then no single glass does.
    a, b, c, d = table
    if c == NOUGHT:
        return None
    ahead = over(minus(d, ONE), c)
    last = over(minus(a, ONE), c)
    if less(ahead, NOUGHT) or less(last, NOUGHT):
        return None
    return bare([("gap", ahead), ("glass", opposite(c)), ("gap", last)])


def outer_gaps(table):
    # Gaps ahead and behind, g and h, such that b - g a - h d + g h c, the gap between two glasses, is above 0.
    a, b, c, d = table
    if less(NOUGHT, b):
        return (NOUGHT, NOUGHT)
    if less(a, NOUGHT):
        return (over(minus(b, ONE), a), NOUGHT)
    if less(d, NOUGHT):
        return (NOUGHT, over(minus(b, ONE), d))
    if less(NOUGHT, c):
        ahead = over(plus(d, ONE), c)
        return (ahead, plus(minus(ONE, b), times(ahead, a)))
    return None


def by_two_glasses(table):
    gaps = outer_gaps(table)
    if gaps is None:
        return None
    ahead, last = gaps
    core = without_gap_behind(without_gap_ahead(table, ahead), last)
    return bare([("gap", ahead)]) + around_one_gap(core) + bare([("gap", last)])


def by_three_glasses(table):
    # Here b is at most 0, a and d are at least 0. Without this first glass a is -1, or c is 1 where b is 0.
    a, b, c, d = table
    first = over(minus(ONE, c), d) if b == NOUGHT else opposite(over(plus(ONE, a), b))
    rest = behind((ONE, NOUGHT, first, ONE), table)
    return [("glass", first)] + by_two_glasses(rest)


def few_glasses(table):
    a, b, c, d = table
    if c == NOUGHT and a == ONE and not less(b, NOUGHT):
        return bare([("gap", b)])
    bench = by_one_glass(table)
    if bench is None:
        bench = by_two_glasses(table)
    if bench is None:
        bench = by_three_glasses(table)
    return bench


def by_two_gaps(table):
    # Two gaps of 1 around this glass come to b, whatever it is; where b is not 0 the glasses at the ends do the rest.
    a, b, c, d = table
    less_one = minus(b, ONE)
    first = over(minus(less_one, a), b)
    last = over(minus(less_one, d), b)
    return bare([("glass", first), ("gap", ONE), ("glass", minus(TWO, b)), ("gap", ONE), ("glass", last)])


def few_gaps(table):
    a, b, c, d = table
    if b == NOUGHT and a == ONE:
        return bare([("glass", opposite(c))])
    if less(NOUGHT, b):
        return around_one_gap(table)
    if less(b, NOUGHT):
        return by_two_gaps(table)
    # Without a gap of 1 ahead b is -a: above 0 where two gaps do, below it where only three do.
    return [("gap", ONE)] + few_gaps(without_gap_ahead(table, ONE))
