"""Lines: what the stops of a bench let by, told for the rays that enter it."""

from roundglass.benches import led_by_part
from roundglass.ratios import NOUGHT
from roundglass.tables import AXIS_RAY, LEVEL_RAY, are_ratios


def is_line(thing):
    if not are_ratios(thing, 3):
        return False
    p, q, r = thing
    return (p != NOUGHT or q != NOUGHT) and r[0] > 0


def lines_of(bench):
    lines = []
    # A ray is y of the level ray and u of the axis ray, and so is its height at each part.
    level = LEVEL_RAY
    axis = AXIS_RAY
    for part in bench:
        if part[0] == "stop":
            lines.append((level[0], axis[0], part[1]))
        level = led_by_part(part, level)
        axis = led_by_part(part, axis)
    return lines


def sum_by(p, q, ray):
    # The top and the bottom of p y + q u, not in lowest terms: to compare is far less work than to reduce.
    y, u = ray
    top = p[0] * y[0] * q[1] * u[1] + q[0] * u[0] * p[1] * y[1]
    return (top, p[1] * y[1] * q[1] * u[1])


def lets_by(line, ray):
    p, q, r = line
    top, bottom = sum_by(p, q, ray)
    return abs(top) * r[1] <= r[0] * bottom


def lets(lines, ray):
    return all([lets_by(line, ray) for line in lines])
