"""Benches: lists of gaps, glasses and stops, and their tables."""

from roundglass.ratios import is_ratio, minus, plus, times
from roundglass.tables import AXIS_RAY, LEVEL_RAY, by_columns, led

MOST_PARTS = 12


def may_have(word, number):
    if word == "gap":
        return number[0] >= 0
    if word == "stop":
        return number[0] > 0
    return word == "glass"


def is_part(thing):
    if not isinstance(thing, tuple) or len(thing) != 2:
        return False
    word, number = thing
    return is_ratio(number) and may_have(word, number)


def is_bench(thing):
    if not isinstance(thing, (list, tuple)) or len(thing) > MOST_PARTS:
        return False
    return all([is_part(part) for part in thing])


def led_by_part(part, ray):
    word, number = part
    y, u = ray
    if word == "gap":
        return (plus(y, times(number, u)), u)
    if word == "glass":
        return (y, minus(u, times(number, y)))
    return ray


def table_of(bench):
    first = LEVEL_RAY
    second = AXIS_RAY
    for part in bench:
        first = led_by_part(part, first)
        second = led_by_part(part, second)
    return by_columns(first, second)


def turned_bench(bench):
    return list(reversed(bench))


def told_apart(one, other):
    first = table_of(one)
    second = table_of(other)
    for ray in (LEVEL_RAY, AXIS_RAY):
        if led(first, ray) != led(second, ray):
            return ray
    return None
