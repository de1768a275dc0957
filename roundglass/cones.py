"""Cones and fields: the slopes with which rays that leave a plane ahead are let by."""

from roundglass.benches import table_of
from roundglass.corners import corners
from roundglass.lines import lines_of
from roundglass.ratios import NOUGHT, less, minus, opposite, over, plus, times, total, unsigned
from roundglass.tables import cross

HALF = (1, 2)


def seen_from(bench, x):
    # A ray of height h and slope u at x enters the bench at h + x u.
    return [(p, plus(times(p, x), q), r) for p, q, r in lines_of(bench)]


def slopes_by(line, h):
    # The slopes by one line that sees them.
    p, q, r = line
    middle = opposite(over(times(p, h), q))
    half = unsigned(over(r, q))
    return (minus(middle, half), plus(middle, half))


def slopes(lines, h):
    low = None
    high = None
    for line in lines:
        p, q, r = line
        if q == NOUGHT:
            if less(r, unsigned(times(p, h))):
                return None
        else:
            least, greatest = slopes_by(line, h)
            if low is None or less(low, least):
                low = least
            if high is None or less(greatest, high):
                high = greatest
    if low is not None and less(high, low):
        return None
    return (low, high)


def cone(bench, x, h):
    return slopes(seen_from(bench, x), h)


def narrowest(bench, x):
    numbers = [number for number, part in enumerate(bench) if part[0] == "stop"]
    found = None
    least = None
    for number, line in zip(numbers, seen_from(bench, x)):
        if line[1] != NOUGHT:
            half = unsigned(over(line[2], line[1]))
            if least is None or less(half, least):
                found = number
                least = half
    return found


def pupil(bench, k):
    a, b, c, d = table_of(bench[:k])
    if a == NOUGHT:
        return None
    # The image of x is at nought where a x + b is, and as a d less b c is 1 the enlargement is a there.
    return (opposite(over(b, a)), over(bench[k][1], unsigned(a)))


def rising_once(ratios):
    rising = []
    for one in ratios:
        lower = [other for other in rising if less(other, one)]
        if one not in rising:
            rising = lower + [one] + rising[len(lower):]
    return rising


def field(bench, x):
    lines = seen_from(bench, x)
    rays = corners(lines)
    if rays is None:
        return None
    told = []
    for h in rising_once([ray[0] for ray in rays]):
        low, high = slopes(lines, h)
        told.append((h, low, high))
    return told


def area(rays):
    crosses = [cross(one, other) for one, other in zip(rays, rays[1:] + rays[:1])]
    return times(total(crosses), HALF)
