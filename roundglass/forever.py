"""For ever: whether a ray in a hall is stopped in some round, by which stop, and papers that none ever stops it."""

from roundglass.halls import kind_word, number_of, reach_by, round_bench, round_of, rounds_to_self, swing, t_of
from roundglass.lines import lines_of
from roundglass.ratios import NOUGHT, common_bottom, less, over, ratio, times, tops_over, unsigned
from roundglass.tables import led

FIRST_ROUNDS = 60


def hall_lines(hall):
    forth = [("forth", number) for number, part in enumerate(hall[1]) if part[0] == "stop"]
    back = [("back", number) for way, number in reversed(forth)]
    lines = lines_of(round_bench(hall))
    return [(way, number, line) for (way, number), line in zip(forth + back, lines)]


def first_two(table, ray, lines):
    # Of each line (x, x', r), its numbers in the first two rounds and its bound.
    later = led(table, ray)
    return [(number_of(p, q, ray), number_of(p, q, later), r) for p, q, r in lines]


def shows_late(word, t, x, later, r):
    if word == "same":
        return False
    if word == "turns":
        return less(times(r, r), reach_by(t, x, later))
    # Without a swing x' is k x, with k + 1 by k being t, or both are 0.
    if swing(t, x, later)[0] != 0:
        return True
    # Of off the numbers are kept just where they don't grow, and the first is not beyond r.
    return word == "off" and (less(unsigned(x), unsigned(later)) or less(r, unsigned(x)))


def late_lines(table, numbers):
    word = kind_word(table)
    t = t_of(table)
    return [k for k, (x, later, r) in enumerate(numbers) if shows_late(word, t, x, later, r)]


def first_state(t, x, later, r):
    # Whole numbers over one bottom, which each round takes by that of t: to reduce is far more work.
    ratios = (x, later, r)
    now, then, bound = tops_over(ratios, common_bottom(ratios))
    return (now, then * t[1], bound)


def next_state(t, state):
    now, then, bound = state
    return (then, t[0] * then - t[1] * t[1] * now, bound * t[1])


def stop_within(t, numbers, watched, rounds):
    states = [first_state(t, x, later, r) for x, later, r in [numbers[k] for k in watched]]
    for passed in range(rounds):
        for k, state in zip(watched, states):
            if abs(state[0]) > state[2]:
                return (passed, k)
        states = [next_state(t, state) for state in states]
    return None


def sheared_round(t, x, later, r):
    # By a shear the numbers, each other one turned where t is -2, go on by equal steps.
    ratios = (x, later, r)
    now, then, bound = tops_over(ratios, common_bottom(ratios))
    step = (then if t[0] > 0 else -then) - now
    ahead = bound - now if step > 0 else bound + now
    return ahead // abs(step) + 1


def first_sheared(t, numbers, late):
    stops = []
    for k in late:
        x, later, r = numbers[k]
        stops.append((sheared_round(t, x, later, r), k))
    return min(stops, default=None)


def first_stop(table, numbers, late):
    # The first round and, in it, the first line that stops the ray; of turns and off in the first rounds alone.
    for k, (x, later, r) in enumerate(numbers):
        if less(r, unsigned(x)):
            return (0, k)
    t = t_of(table)
    word = kind_word(table)
    if word == "same":
        return stop_within(t, numbers, list(range(len(numbers))), rounds_to_self(table))
    if word == "shear":
        return first_sheared(t, numbers, late)
    return stop_within(t, numbers, late, FIRST_ROUNDS)


def shown_by(word, table, x, later):
    # What shows of a line's numbers that none is ever beyond its r.
    if x == NOUGHT and later == NOUGHT:
        return ("nought",)
    if word == "same":
        return ("round", rounds_to_self(table))
    if word == "turns":
        top, bottom = reach_by(t_of(table), x, later)
        return ("reach", ratio(top, bottom))
    return ("kept", over(later, x))


def ever(hall, ray):
    table = round_of(hall)
    met = hall_lines(hall)
    numbers = first_two(table, ray, [line for way, number, line in met])
    late = late_lines(table, numbers)
    stop = first_stop(table, numbers, late)
    if stop is not None:
        passed, k = stop
        return ("stopped", passed, met[k][0], met[k][1])
    if len(late) > 0:
        return ("late", late[0])
    word = kind_word(table)
    return ("never", [shown_by(word, table, x, later) for x, later, r in numbers])
