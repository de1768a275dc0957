"""The way of a ray through a bench: which stop stops it, and where it crosses the axis."""

from roundglass.benches import led_by_part
from roundglass.ratios import NOUGHT, less, plus, unsigned
from roundglass.tables import axis_ahead


def way(bench, ray):
    rays = [ray]
    for part in bench:
        rays.append(led_by_part(part, rays[-1]))
    return rays


def stopped_by(bench, ray):
    entering = ray
    for number, part in enumerate(bench):
        if part[0] == "stop" and less(part[1], unsigned(entering[0])):
            return number
        entering = led_by_part(part, entering)
    return None


def crosses_behind_begin(gap, ray):
    depth = axis_ahead(ray)
    return depth is not None and less(NOUGHT, depth) and not less(gap, depth)


def crossings(bench, ray):
    places = []
    if ray[0] == NOUGHT:
        places.append(NOUGHT)
    begin = NOUGHT
    for part, entering in zip(bench, way(bench, ray)):
        if part[0] == "gap":
            # Only gaps change heights, so a crossing at a gap's begin is told already:
            # as the begin of all, or as the end of a gap ahead.
            if crosses_behind_begin(part[1], entering):
                places.append(plus(begin, axis_ahead(entering)))
            begin = plus(begin, part[1])
    return places
