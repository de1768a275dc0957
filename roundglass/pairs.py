"""Tables by three pairs of planes that are to be sharp."""

from roundglass.images import ray_from
from roundglass.ratios import NOUGHT, less, minus, opposite, over, root, times
from roundglass.tables import behind, by_columns, cross, grown, undone


def ray_to(plane):
    if plane is None:
        return ray_from(plane)
    return ray_from(opposite(plane))


def frame(rays):
    # Four entries that lead (1, 0), (0, 1) and (1, 1) along the three rays; a d less b c is seldom 1.
    first, second, third = rays
    return by_columns(grown(first, cross(third, second)), grown(second, cross(first, third)))


def begins_below(entries):
    signs = [less(entry, NOUGHT) for entry in entries if entry != NOUGHT]
    return signs[0]


def tables_by(pairs):
    # Undone, the first frame leads back but for a share of all entries, and that is set right by the root.
    back = undone(frame([ray_from(pair[0]) for pair in pairs]))
    entries = behind(back, frame([ray_to(pair[1]) for pair in pairs]))
    a, b, c, d = entries
    share = root(minus(times(a, d), times(b, c)))
    if share is None:
        return None
    if begins_below(entries):
        share = opposite(share)
    first = [over(entry, share) for entry in entries]
    return (tuple(first), tuple([opposite(entry) for entry in first]))
