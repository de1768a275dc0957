"""Idle lines, that stop no ray which all others let by, and the judge of what is told of them."""

from roundglass.lines import lets, lets_by
from roundglass.most import bound_by, most, value_of
from roundglass.ratios import less, over, plus
from roundglass.tables import grown


def others_of(lines, k):
    return [line for number, line in enumerate(lines) if number != k]


def idle(lines, k):
    p, q, r = lines[k]
    told = most(others_of(lines, k), p, q)
    if told[0] == "free":
        # The others let by each ray along this one; twice r is beyond r.
        ray = told[1]
        return ("needed", grown(ray, over(plus(r, r), value_of(p, q, ray))))
    word, value, ray, shares = told
    if less(r, value):
        return ("needed", ray)
    return ("idle", [(number if number < k else number + 1, share) for number, share in shares])


def shares_right(lines, k, shares):
    if k in [number for number, share in shares]:
        return False
    p, q, r = lines[k]
    bound = bound_by(lines, shares, p, q)
    return bound is not None and not less(r, bound)


def idle_right(lines, k, told):
    word, shown = told
    if word == "idle":
        return shares_right(lines, k, shown)
    return word == "needed" and lets(others_of(lines, k), shown) and not lets_by(lines[k], shown)
