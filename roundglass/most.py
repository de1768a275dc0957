"""The most of p y + q u that lines let by, with shares of lines that show it, and the judge of both."""

from roundglass.lines import lets, sum_by
from roundglass.ratios import NOUGHT, ONE, common_bottom, opposite, over, ratio, same, times, tops_over, unsigned
from roundglass.rims import facing, half_rim, met_at, veer
from roundglass.tables import cross, grown

MOST_SHARES = 2


def value_of(p, q, ray):
    top, bottom = sum_by(p, q, ray)
    return ratio(top, bottom)


def sides_around(half, wanted):
    # Between two neighbours of the rim, or along the first, lies each (p, q), and they meet where it is most.
    rim = half + [facing(side) for side in half]
    found = None
    for one, other in zip(rim, rim[1:] + rim[:1]):
        if veer(one, wanted) >= 0 and veer(wanted, other) > 0:
            found = (one, other)
    return found


def most_around(half, p, q):
    bottom = common_bottom((p, q))
    wanted = tops_over((p, q), bottom)
    one, other = sides_around(half, wanted)
    # (p, q) is so much of the one side and of the other, over the whole; of the lines it is that by their scales.
    of_one = veer(wanted, other)
    of_other = veer(one, wanted)
    whole = bottom * veer(one, other)
    value = ratio(of_one * one[2] + of_other * other[2], whole)
    shares = [(one[3], ratio(of_one * one[4], whole)), (other[3], ratio(of_other * other[4], whole))]
    return ("most", value, met_at(one, other), sorted([pair for pair in shares if pair[1] != NOUGHT]))


def most_along(lines, number, p, q):
    # All lines are along this one, and none of them lets by less.
    own_p, own_q, r = lines[number]
    bend = cross((own_p, own_q), (p, q))
    if bend[0] < 0:
        return ("free", (own_q, opposite(own_p)))
    if bend[0] > 0:
        return ("free", (opposite(own_q), own_p))
    share = over(q, own_q) if own_p == NOUGHT else over(p, own_p)
    value = times(unsigned(share), r)
    ray = grown((p, q), over(value, value_of(p, q, (p, q))))
    return ("most", value, ray, [(number, share)])


def most(lines, p, q):
    if p == NOUGHT and q == NOUGHT:
        return ("most", NOUGHT, (NOUGHT, NOUGHT), [])
    half = half_rim(lines)
    if len(half) == 0:
        return ("free", (p, q))
    if len(half) == 1:
        return most_along(lines, half[0][3], p, q)
    return most_around(half, p, q)


def are_shares(lines, shares):
    if len(shares) > MOST_SHARES:
        return False
    last = -1
    for number, share in shares:
        if number <= last or number >= len(lines) or share == NOUGHT:
            return False
        last = number
    return True


def added(lines, shares):
    # The three sums are not in lowest terms: a judge only multiplies, adds and compares.
    sums = [NOUGHT, NOUGHT, NOUGHT]
    for number, share in shares:
        weights = (share, share, unsigned(share))
        sums = [sum_by(one, part, (ONE, weight)) for one, part, weight in zip(sums, lines[number], weights)]
    return sums


def bound_by(lines, shares, p, q):
    # What the shares show p y + q u to be at most; None where they show nothing.
    if not are_shares(lines, shares):
        return None
    sums = added(lines, shares)
    if not same(sums[0], p) or not same(sums[1], q):
        return None
    return sums[2]


def free_right(lines, p, q, ray):
    if sum_by(p, q, ray)[0] <= 0:
        return False
    return all([sum_by(line[0], line[1], ray)[0] == 0 for line in lines])


def most_right(lines, p, q, told):
    if len(told) == 2:
        return told[0] == "free" and free_right(lines, p, q, told[1])
    word, value, ray, shares = told
    if word != "most" or not lets(lines, ray) or not same(sum_by(p, q, ray), value):
        return False
    bound = bound_by(lines, shares, p, q)
    return bound is not None and same(bound, value)
