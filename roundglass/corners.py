"""The corners of the rays that lines let by."""

from roundglass.ratios import less, opposite
from roundglass.rims import facing, half_rim, met_at


def is_lower(one, other):
    if one[0] != other[0]:
        return less(one[0], other[0])
    return less(one[1], other[1])


def from_lowest(rays):
    place = 0
    for number, ray in enumerate(rays):
        if is_lower(ray, rays[place]):
            place = number
    return rays[place:] + rays[:place]


def corners(lines):
    half = half_rim(lines)
    if len(half) < 2:
        return None
    rays = [met_at(one, other) for one, other in zip(half, half[1:] + [facing(half[0])])]
    return from_lowest(rays + [(opposite(y), opposite(u)) for y, u in rays])
