"""The rim of lines: the sides that bound the rays they let by, once around.

A side (p, q, r, number, scale) lets by the rays of which p y + q u is at most r. All five are whole numbers, as to
reduce ratios of many figures is far more work; p, q and r are those of the line taken by the scale, but r without
its sign, so each line has two sides. As points p by r and q by r the sides of the rim are the hull of all sides,
and nought lies within it.
"""

from roundglass.ratios import common_bottom, ratio, tops_over


def facing(side):
    p, q, r, number, scale = side
    return (-p, -q, r, number, -scale)


def sides_of(lines):
    sides = []
    for number, line in enumerate(lines):
        scale = common_bottom(line)
        p, q, r = tops_over(line, scale)
        side = (p, q, r, number, scale)
        sides.append(side)
        sides.append(facing(side))
    return sides


def veer(one, other):
    # Above 0 where the other's p and q lie to the left of the one's.
    return one[0] * other[1] - one[1] * other[0]


def turn(one, other, third):
    # Above 0 where the third one's point lies to the left, as seen from the one's toward the other's.
    return one[2] * veer(other, third) - other[2] * veer(one, third) + third[2] * veer(one, other)


def juts_more(one, other):
    more = one[0] * other[2] - other[0] * one[2]
    if more == 0:
        more = one[1] * other[2] - other[1] * one[2]
    return more > 0


def outermost(sides):
    found = sides[0]
    for side in sides:
        if juts_more(side, found):
            found = side
    return found


def next_side(sides, here):
    found = None
    for side in sides:
        if veer(here, side) > 0:
            bend = -1 if found is None else turn(here, found, side)
            # Of three that meet in one ray the middle one only touches there, so the last one is taken.
            if bend < 0 or (bend == 0 and veer(found, side) > 0):
                found = side
    return found


def half_rim(lines):
    # The other half faces this one. Of lines all along one another it has one side, of no lines none.
    if len(lines) == 0:
        return []
    sides = sides_of(lines)
    half = [outermost(sides)]
    here = next_side(sides, half[0])
    while here is not None and veer(half[0], here) > 0:
        half.append(here)
        here = next_side(sides, here)
    return half


def met_at(one, other):
    bottom = veer(one, other)
    y = ratio(one[2] * other[1] - other[2] * one[1], bottom)
    u = ratio(one[0] * other[2] - other[0] * one[2], bottom)
    return (y, u)
