"""The judges of what is told of a ray in a hall for ever."""

from roundglass.forever import first_two, hall_lines, shows_late, stop_within
from roundglass.halls import kind_word, reach_by, round_of, rounds_to_self, t_of
from roundglass.ratios import NOUGHT, ONE, is_ratio, is_whole, less, plus, same, times, unsigned


def round_right(table, numbers, n):
    if not is_whole(n) or n != rounds_to_self(table):
        return False
    return stop_within(t_of(table), [numbers], [0], n) is None


def reach_right(table, numbers, s):
    if not is_ratio(s) or kind_word(table) != "turns":
        return False
    x, later, r = numbers
    return same(reach_by(t_of(table), x, later), s) and not less(times(r, r), s)


def kept_right(table, numbers, k):
    if not is_ratio(k) or less(ONE, unsigned(k)):
        return False
    x, later, r = numbers
    # k + 1 by k is t, both sides taken by k; so no k of 0 does.
    if plus(times(k, k), ONE) != times(t_of(table), k):
        return False
    return times(k, x) == later and not less(r, unsigned(x))


def line_right(table, numbers, shown):
    if not isinstance(shown, tuple) or len(shown) > 2:
        return False
    if shown == ("nought",):
        return numbers[0] == NOUGHT and numbers[1] == NOUGHT
    if len(shown) < 2:
        return False
    word, told = shown
    if word == "round":
        return round_right(table, numbers, told)
    if word == "reach":
        return reach_right(table, numbers, told)
    return word == "kept" and kept_right(table, numbers, told)


def never_shown(hall, ray, paper):
    lines = [line for way, number, line in hall_lines(hall)]
    if len(paper) != len(lines):
        return False
    table = round_of(hall)
    return all([line_right(table, numbers, shown) for numbers, shown in zip(first_two(table, ray, lines), paper)])


def late_shown(hall, ray, k):
    met = hall_lines(hall)
    if k < 0 or k >= len(met):
        return False
    table = round_of(hall)
    x, later, r = first_two(table, ray, [met[k][2]])[0]
    return shows_late(kind_word(table), t_of(table), x, later, r)
