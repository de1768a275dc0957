"""The most of p y + q u that lines let by, with shares of lines that show it, and the judge of both."""

from roundglass.lines import lets, sum_by
from roundglass.ratios import NOUGHT, opposite, over, plus, ratio, times, unsigned
from roundglass.rims import facing, half_rim, met_at, veer
from roundglass.tables import cross, grown

MOST_SHARES = 2


def value_of(p, q, ray):
    top, bottom = sum_by(p, q, ray)
    return ratio(top, bottom)


def sides_around(half, p, q):
    # Between two neighbours of the rim, or along the first, lies each (p, q), and they meet where it is most.
    wanted = (p[0] * q[1], q[0] * p[1])
    rim = half + [facing(side) for side in half]
    found = None
    for one, other in zip(rim, rim[1:] + rim[:1]):
        if veer(one, wanted) >= 0 and veer(wanted, other) > 0:
            found = (one, other)
    return found


def two_shares(lines, one, other, p, q):
    first = lines[one][:2]
    second = lines[other][:2]
    whole = cross(first, second)
    shares = [(one, over(cross((p, q), second), whole)), (other, over(cross(first, (p, q)), whole))]
    return sorted([pair for pair in shares if pair[1] != NOUGHT])


def most_along(lines, number, p, q):
    # All lines are along this one, and none of them lets by less.
    own_p, own_q, r = lines[number]
    bend = cross((own_p, own_q), (p, q))
    if bend[0] < 0:
        return ("free", (own_q, opposite(own_p)))
    if bend[0] > 0:
        return ("free", (opposite(own_q), own_p))
    share = over(q, own_q) if own_p == NOUGHT else over(p, own_p)
    value = times(unsigned(share), r)
    ray = grown((p, q), over(value, value_of(p, q, (p, q))))
    return ("most", value, ray, [(number, share)])


def most(lines, p, q):
    if p == NOUGHT and q == NOUGHT:
        return ("most", NOUGHT, (NOUGHT, NOUGHT), [])
    half = half_rim(lines)
    if len(half) == 0:
        return ("free", (p, q))
    if len(half) == 1:
        return most_along(lines, half[0][3], p, q)
    one, other = sides_around(half, p, q)
    ray = met_at(one, other)
    return ("most", value_of(p, q, ray), ray, two_shares(lines, one[3], other[3], p, q))


def are_shares(lines, shares):
    if len(shares) > MOST_SHARES:
        return False
    last = -1
    for number, share in shares:
        if number <= last or number >= len(lines) or share == NOUGHT:
            return False
        last = number
    return True


def added(lines, shares):
    sums = [NOUGHT, NOUGHT, NOUGHT]
    for number, share in shares:
        p, q, r = lines[number]
        parts = (times(p, share), times(q, share), times(r, unsigned(share)))
        sums = [plus(one, part) for one, part in zip(sums, parts)]
    return tuple(sums)


def free_right(lines, p, q, ray):
    if sum_by(p, q, ray)[0] <= 0:
        return False
    return all([sum_by(line[0], line[1], ray)[0] == 0 for line in lines])


def most_right(lines, p, q, told):
    if len(told) == 2:
        return told[0] == "free" and free_right(lines, p, q, told[1])
    word, value, ray, shares = told
    if word != "most" or not lets(lines, ray) or value_of(p, q, ray) != value:
        return False
    return are_shares(lines, shares) and added(lines, shares) == (p, q, value)
