"""Images: the plane behind where the rays that leave a point ahead come together again."""

from roundglass.benches import table_of
from roundglass.ratios import NOUGHT, ONE, opposite, over, plus, times
from roundglass.tables import LEVEL_RAY, axis_ahead, led


def ray_from(plane):
    # Where this one ray, from the plane's point on the axis, comes back to the axis tells the image.
    if plane is None:
        return LEVEL_RAY
    return (plane, ONE)


def image(table, x):
    leaving = led(table, ray_from(x))
    plane = axis_ahead(leaving)
    if x is None or plane is None:
        return (plane, None)
    return (plane, over(ONE, leaving[1]))


def weights_behind(bench, z):
    # The height at z is the first of these by the height ahead of the bench, and the second by the slope there.
    a, b, c, d = table_of(bench)
    return (plus(a, times(z, c)), plus(b, times(z, d)))


def setting(bench, k, x, z):
    y, u = led(table_of(bench[:k]), ray_from(x))
    by_height, by_slope = weights_behind(bench[k + 1:], z)
    # At z the ray has this height, were the part's number nought, and so much more for each 1 of the number.
    height = plus(times(by_height, y), times(by_slope, u))
    if bench[k][0] == "gap":
        change = times(by_height, u)
    else:
        change = opposite(times(by_slope, y))
    if change != NOUGHT:
        return ("one", opposite(over(height, change)))
    return ("all",) if height == NOUGHT else ("none",)
