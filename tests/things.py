"""What several tests need: things of all kinds, and rows of rays, tables and benches by a fixed seed."""

import random
from fractions import Fraction

GREAT = 10 ** 299 + 7
WIDE = 10 ** 300 - 1

NOT_WHOLE = (None, True, False, "", "1", "gap", (), [], {}, (1,), [1], (1, 1), [1, 1], {1: 1}, ((1, 1), (1, 1)))

NOT_RATIO = (
    None, True, False, 0, 1, -3, "1/2", "12", (), (1,), (1, 2, 3), [1, 2], [0, 1], {1: 2}, {0: 0, 1: 1},
    (2, 4), (-6, 3), (0, 2), (0, 3), (5, 5), (1, 0), (0, 0), (1, -2), (-1, -2), (0, -1),
    (True, 1), (1, True), (False, 1), (True, True), ("1", 2), (1, "2"), (None, 1), (1, None),
    ((1, 1), 1), (1, (1, 1)), ([1], 2), ({}, 1), (2 * GREAT, 2), ((1, 2), (1, 2)),
)


def nest(levels, build):
    thing = 1
    for level in range(levels):
        thing = build(thing)
    return thing


def nests(levels):
    builds = (lambda x: (x,), lambda x: [x], lambda x: {"a": x}, lambda x: (x, 1), lambda x: (1, x), lambda x: [x, x])
    # The last build doubles what it holds, so it is not taken deep.
    return [nest(levels, build) for build in builds[:-1]] + [nest(min(levels, 5), builds[-1])]


def rows(count):
    fillings = (1, "a", None, True, (1, 1), [1, 1], ("gap", (1, 1)))
    made = []
    for filling in fillings:
        # A filling that holds parts itself counts with them.
        share = 1 + (len(filling) if isinstance(filling, (tuple, list)) else 0)
        made.append((filling,) * (count // share))
        made.append([filling] * (count // share))
    made.append({number: "a" for number in range(count // 2)})
    made.append("a" * count)
    return made


def of(fraction):
    return (fraction.numerator, fraction.denominator)


def fraction(one):
    return Fraction(one[0], one[1])


class Seeded:
    def __init__(self, seed):
        self.source = random.Random(seed)

    def whole(self, bound):
        return self.source.randint(-bound, bound)

    def ratio(self, bound=9):
        return of(Fraction(self.whole(bound), self.source.randint(1, bound)))

    def ray(self, bound=9):
        return (self.ratio(bound), self.ratio(bound))

    def part(self, bound=9):
        word = self.source.choice(("gap", "glass", "stop"))
        number = fraction(self.ratio(bound))
        if word == "gap":
            number = abs(number)
        if word == "stop":
            number = abs(number) + 1
        return (word, of(number))

    def bench(self, count, bound=9):
        return [self.part(bound) for number in range(count)]

    def table(self, bound=9):
        a = b = c = Fraction(0)
        while a == 0:
            a, b, c = [fraction(self.ratio(bound)) for number in range(3)]
        return (of(a), of(b), of(c), of((1 + b * c) / a))


def slow_led(part, ray):
    y, u = fraction(ray[0]), fraction(ray[1])
    if part[0] == "gap":
        return (of(y + fraction(part[1]) * u), of(u))
    if part[0] == "glass":
        return (of(y), of(u - fraction(part[1]) * y))
    return ray
