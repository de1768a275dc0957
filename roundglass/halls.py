"""Halls: a bench between two mirrors, and what a round through it does to rays."""

from roundglass.benches import is_bench, table_of, turned_bench
from roundglass.ratios import (
    NOUGHT, ONE, common_bottom, is_ratio, less, minus, opposite, over, plus, ratio, root, times, tops_over, unsigned,
)
from roundglass.tables import AXIS_RAY, SELF, led

MOST_BETWEEN = 8
TWO = (2, 1)
FOUR = (4, 1)


def is_hall(thing):
    if not isinstance(thing, tuple) or len(thing) != 3:
        return False
    near, bench, far = thing
    return is_ratio(near) and is_ratio(far) and is_bench(bench) and len(bench) <= MOST_BETWEEN


def round_bench(hall):
    # A mirror leads as a glass does, so a round is a bench, too.
    near, bench, far = hall
    return list(bench) + [("glass", far)] + turned_bench(bench) + [("glass", near)]


def round_of(hall):
    return table_of(round_bench(hall))


def t_of(table):
    return plus(table[0], table[3])


def rounds_to_self(table):
    # None where no number of rounds leads each ray to itself.
    if table == SELF:
        return 1
    if table == tuple([opposite(entry) for entry in SELF]):
        return 2
    t = t_of(table)
    if t == opposite(ONE):
        return 3
    if t == NOUGHT:
        return 4
    return 6 if t == ONE else None


def kind_word(table):
    if rounds_to_self(table) is not None:
        return "same"
    size = unsigned(t_of(table))
    if size == TWO:
        return "shear"
    return "turns" if less(size, TWO) else "off"


def form_of(table):
    a, b, c, d = table
    return (c, minus(d, a), opposite(b))


def ray_along(table):
    # Of a shear: half of t is 1 or -1, and a round takes this ray by it. Where b is 0, a and d are both half of t.
    a, b, c, d = table
    if b == NOUGHT:
        return AXIS_RAY
    return (b, minus(over(t_of(table), TWO), a))


def shrinking(t):
    # k and 1 by k are the two roots of k k - t k + 1, and k is the one that is nearer to nought.
    apart = root(minus(times(t, t), FOUR))
    if apart is None:
        return None
    if less(t, NOUGHT):
        apart = opposite(apart)
    return over(minus(t, apart), TWO)


def kind(hall):
    table = round_of(hall)
    word = kind_word(table)
    if word == "same":
        return (word, rounds_to_self(table))
    if word == "turns":
        return (word, form_of(table))
    if word == "shear":
        return (word, ray_along(table))
    return (word, shrinking(t_of(table)))


def form(hall):
    return form_of(round_of(hall))


def number_of(p, q, ray):
    return plus(times(p, ray[0]), times(q, ray[1]))


def swing(t, x, later):
    # x x - t x x' + x' x' of the numbers x and x' of two rounds one behind the other, which is the same for each two.
    # Its top and bottom are not in lowest terms, and the bottom lacks that of t.
    bottom = common_bottom((x, later))
    one, other = tops_over((x, later), bottom)
    return (t[1] * (one * one + other * other) - t[0] * one * other, bottom * bottom)


def reach_by(t, x, later):
    # The swing taken by 4 by (4 - t t), which is the reach of 7.3 with far smaller numbers; not in lowest terms.
    top, bottom = swing(t, x, later)
    return (4 * top * t[1], bottom * (4 * t[1] * t[1] - t[0] * t[0]))


def reach(hall, ray, p, q):
    table = round_of(hall)
    top, bottom = reach_by(t_of(table), number_of(p, q, ray), number_of(p, q, led(table, ray)))
    return ratio(top, bottom)
