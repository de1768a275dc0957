"""What tests of halls need: halls of each kind, and slow answers by fractions, part by part."""

from fractions import Fraction

from things import Seeded, fraction, of, slow_led

NOUGHT = (0, 1)
STILL = (NOUGHT, NOUGHT)
GAP = ("gap", (1, 1))


def hall_with(t, bench=(GAP,), near=0):
    # Of a hall with gaps of 1 in all, t + 2 is (2 - near) (2 - far).
    near = Fraction(near)
    return (of(near), list(bench), of(2 - (Fraction(t) + 2) / (2 - near)))


def stops_around(r, t, near=0):
    # One stop at either end of the gap.
    stop = ("stop", of(Fraction(r)))
    return hall_with(t, (stop, GAP, stop), near)


SAME = {
    1: (NOUGHT, [], NOUGHT),
    2: ((2, 1), [GAP], (2, 1)),
    3: hall_with(-1),
    4: hall_with(0),
    6: hall_with(1),
}
TURNS = [hall_with(Fraction(1, 2)), hall_with(Fraction(-1, 3), near=1), hall_with(Fraction(199, 100), near=Fraction(1, 7))]
SHEAR = {
    2: [((1, 1), [], (3, 1)), (NOUGHT, [GAP], NOUGHT), hall_with(2, near=-1), hall_with(2, near=Fraction(1, 3))],
    -2: [hall_with(-2), hall_with(-2, near=1), ((2, 1), [GAP], (5, 1)), hall_with(-2, near=Fraction(-1, 3))],
}
# By the ratio k, with k + 1 by k being t.
OFF = {
    (1, 2): hall_with(Fraction(5, 2)),
    (-1, 2): hall_with(Fraction(-5, 2)),
    (2, 3): hall_with(Fraction(13, 6), near=1),
    (-3, 7): hall_with(Fraction(-58, 21), near=Fraction(1, 5)),
}
OFF_WITHOUT = [hall_with(3), hall_with(-3), hall_with(Fraction(201, 100), near=-2), hall_with(10 ** 20)]


def with_stops(hall, r):
    stop = ("stop", of(Fraction(r)))
    return (hall[0], [stop] + list(hall[1]) + [stop], hall[2])


def all_kinds():
    halls = list(SAME.values()) + TURNS + SHEAR[2] + SHEAR[-2] + list(OFF.values()) + OFF_WITHOUT
    return halls + [with_stops(hall, r) for hall in halls for r in (1, Fraction(7, 2))]


def some_halls(seed, count, bound=3, most=8):
    seeded = Seeded(seed)
    return [(seeded.ratio(bound), seeded.bench(number % (most + 1), bound), seeded.ratio(bound)) for number in range(count)]


def slow_steps(hall):
    # What a round goes through, with the way and number of each part; the mirrors have none.
    near, bench, far = hall
    forth = [("forth", number, part) for number, part in enumerate(bench)]
    back = [("back", number, part) for way, number, part in reversed(forth)]
    return forth + [(None, None, ("glass", far))] + back + [(None, None, ("glass", near))]


def slow_round(hall, ray):
    for way, number, part in slow_steps(hall):
        ray = slow_led(part, ray)
    return ray


def slow_stop_in(hall, ray):
    for way, number, part in slow_steps(hall):
        if part[0] == "stop" and abs(fraction(ray[0])) > fraction(part[1]):
            return (way, number)
        ray = slow_led(part, ray)
    return None


def slow_stop(hall, ray, rounds):
    for passed in range(rounds):
        found = slow_stop_in(hall, ray)
        if found is not None:
            return (passed,) + found
        ray = slow_round(hall, ray)
    return None


def slow_table(hall):
    first, second = slow_round(hall, ((1, 1), NOUGHT)), slow_round(hall, (NOUGHT, (1, 1)))
    return tuple(fraction(entry) for entry in (first[0], second[0], first[1], second[1]))


def product(one, other):
    a, b, c, d = one
    e, f, g, h = other
    return (a * e + b * g, a * f + b * h, c * e + d * g, c * f + d * h)


def slow_order(table):
    raised = table
    for n in range(1, 13):
        if raised == (1, 0, 0, 1):
            return n
        raised = product(raised, table)
    return None


def slow_word(hall):
    table = slow_table(hall)
    if slow_order(table) is not None:
        return "same"
    t = abs(table[0] + table[3])
    return "turns" if t < 2 else "shear" if t == 2 else "off"


def slow_reach(hall, ray, p, q):
    a, b, c, d = slow_table(hall)
    y, u, p, q = [fraction(one) for one in (ray[0], ray[1], p, q)]
    value = c * y * y + (d - a) * y * u - b * u * u
    return value * 4 * (c * q * q - (d - a) * p * q - b * p * p) / (4 - (a + d) ** 2)


def slow_numbers(hall, ray, p, q, rounds):
    numbers = []
    for passed in range(rounds):
        numbers.append(fraction(p) * fraction(ray[0]) + fraction(q) * fraction(ray[1]))
        ray = slow_round(hall, ray)
    return numbers


def slow_line_right(hall, ray, line, shown):
    p, q, r = line
    x, later = slow_numbers(hall, ray, p, q, 2)
    r = fraction(r)
    t = slow_table(hall)[0] + slow_table(hall)[3]
    if shown == ("nought",):
        return x == 0 and later == 0
    if len(shown) != 2 or shown[0] not in ("round", "reach", "kept"):
        return False
    word, told = shown
    if word == "round":
        if slow_word(hall) != "same" or slow_order(slow_table(hall)) != told:
            return False
        return all(abs(number) <= r for number in slow_numbers(hall, ray, p, q, told))
    if not isinstance(told, tuple):
        return False
    told = fraction(told)
    if word == "reach":
        return slow_word(hall) == "turns" and told == slow_reach(hall, ray, p, q) and told <= r * r
    return told != 0 and abs(told) <= 1 and told + 1 / told == t and later == told * x and abs(x) <= r


def slow_late(hall, ray, line):
    p, q, r = line
    x, later = slow_numbers(hall, ray, p, q, 2)
    t = slow_table(hall)[0] + slow_table(hall)[3]
    word = slow_word(hall)
    if word == "turns":
        return slow_reach(hall, ray, p, q) > fraction(r) ** 2
    if word == "shear":
        return later != (x if t == 2 else -x)
    # Of off: not both 0, and no k from -1 to 1 takes the one to the other for ever, or the first is beyond.
    third = t * later - x
    kept = x != 0 and later * later == third * x and abs(later) <= abs(x) <= fraction(r)
    return word == "off" and (x != 0 or later != 0) and not kept
