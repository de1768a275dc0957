"""What tests of stops need: sets of lines of many forms, and slow answers of what lines let by."""

import functools
import itertools
import math

from things import Seeded, fraction, of

NOUGHT = (0, 1)


def line(p, q, r):
    return tuple(of(fraction((0, 1)) + part) for part in (p, q, r))


SQUARE = [line(1, 0, 1), line(0, 1, 1)]
# The second touches the square just at (1, 1), where both others meet.
TOUCHED = [line(1, 0, 1), line(1, 1, 2), line(0, 1, 1)]
CUT = [line(1, 0, 1), line(2, 2, 3), line(0, 1, 1)]
ALONG = [line(1, 2, 3), line(-2, -4, 3), line(3, 6, 50)]
LEVEL = [line(0, 2, 3), line(0, -1, 2)]


def around(count, figures=3):
    # Lines that touch a round, so that each of them has a side on the rim.
    unit = 10 ** figures
    lines = []
    for number in range(count):
        tangent = fraction((round(math.tan(math.pi * number / 2 / count) * 1000) * unit + number, 1000 * unit))
        both = 1 + tangent * tangent
        lines.append(line((1 - tangent * tangent) / both, 2 * tangent / both, 1))
    return lines


def some_lines(seed, count, bound):
    seeded = Seeded(seed)
    lines = []
    while len(lines) < count:
        p, q = seeded.ratio(bound), seeded.ratio(bound)
        if p != NOUGHT or q != NOUGHT:
            lines.append((p, q, of(abs(fraction(seeded.ratio(bound))) + 1)))
    return lines


def many():
    fixed = [SQUARE, TOUCHED, CUT, ALONG, LEVEL, around(12), around(5), SQUARE * 6, CUT + ALONG, SQUARE[:1], SQUARE[1:]]
    return [[]] + fixed + [some_lines(seed, 1 + seed % 12, 1 + seed % 4) for seed in range(60)]


def numbers_of(lines, ray):
    return [fraction(p) * fraction(ray[0]) + fraction(q) * fraction(ray[1]) for p, q, r in lines]


def slow_lets(lines, ray):
    return all(abs(number) <= fraction(line[2]) for number, line in zip(numbers_of(lines, ray), lines))


def all_along(lines):
    firsts = [(fraction(p), fraction(q)) for p, q, r in lines]
    return all(p * w == q * v for (p, q), (v, w) in itertools.combinations(firsts, 2))


def turn_order(one, other):
    # By angles from the least ray on: half by half, then by crosses.
    return -1 if one[0] * other[1] - one[1] * other[0] > 0 else 1


def slow_corners(lines):
    if all_along(lines):
        return None
    found = set()
    for (p, q, r), (v, w, s) in itertools.combinations(lines, 2):
        p, q, v, w = [fraction(part) for part in (p, q, v, w)]
        whole = p * w - q * v
        if whole != 0:
            for one, other in itertools.product((fraction(r), -fraction(r)), (fraction(s), -fraction(s))):
                ray = ((one * w - q * other) / whole, (p * other - one * v) / whole)
                if slow_lets(lines, (of(ray[0]), of(ray[1]))):
                    found.add(ray)
    least = min(found)
    left = [ray for ray in found if least[0] * ray[1] - least[1] * ray[0] > 0]
    half = [least] + sorted(left, key=functools.cmp_to_key(turn_order))
    told = half + [(-y, -u) for y, u in half]
    assert set(told) == found
    return [(of(y), of(u)) for y, u in told]


def slow_most(rays, p, q):
    return max(numbers_of([(p, q, (1, 1))], ray)[0] for ray in rays)


def slow_sums(lines, shares):
    parts = [(fraction(share), [fraction(part) for part in lines[number]]) for number, share in shares]
    return [
        sum(share * own[0] for share, own in parts),
        sum(share * own[1] for share, own in parts),
        sum(abs(share) * own[2] for share, own in parts),
    ]


def fit_shares(lines, shares):
    numbers = [number for number, share in shares]
    if len(shares) > 2 or numbers != sorted(set(numbers)) or any(share == NOUGHT for number, share in shares):
        return False
    return all(0 <= number < len(lines) for number in numbers)
