"""Unit parts: the shortest row of gaps of 1 and glasses of 1 that has a told table of whole numbers.

The rows gap, glass, gap and glass, gap, glass have one table: call either a half. A gap ahead of a half is a glass
behind it, a glass ahead a gap behind, and four halves lead each ray to itself. So each table has a row of runs, gaps
and glasses by turns, with at most three halves at its end. Where no run but the first and the last is of a single
part, no further half can be made out in the runs, and then no row of unit parts with this table is shorter.
"""

from roundglass.benches import table_of
from roundglass.errors import NoWhole, TooMany

MOST_COUNT = 4000
HALVES_TO_SELF = 4
HALF = (("gap", 1), ("glass", 1), ("gap", 1))
WORDS = ("gap", "glass")


def whole_entries(table):
    if any([entry[1] != 1 for entry in table]):
        raise NoWhole("an entry of the table is no whole number")
    return [entry[0] for entry in table]


def refuse_beyond(count):
    if count > MOST_COUNT:
        raise TooMany("more unit parts than are told")


def gaps_between_halves(table):
    # The table of a row of so many gaps, a half, so many gaps, a half .. so many gaps, where those below 0 are gaps
    # undone; and 1, or -1 where two halves more take all entries by -1. Turned about, a table tells the row's begin.
    d, b, c, a = whole_entries(table)
    gaps = []
    inner = 0
    while c != 0:
        # The least whole number from a by c on: thus each but the first and the last is from 2 on.
        often = -(-a // c)
        if len(gaps) > 0:
            inner += often
        refuse_beyond(inner)
        gaps.append(often)
        a, b, c, d = -c, -d, a - often * c, b - often * d
    gaps.append(b * d)
    return (gaps, d)


def begun_anew(runs):
    # Of a first run that is none, or below 0. A part undone is the other one, itself, and a half undone; so of several
    # undone come runs of 2, with one part at either end, that behind joining the next run.
    if runs[0] == 0:
        return runs[1:]
    rest = runs[1:] if len(runs) > 1 else [0]
    return [1] + [2] * (-runs[0] - 1) + [rest[0] + 1] + rest[1:]


def about(runs):
    return list(reversed(runs))


def joined(runs):
    told = []
    for word, often in runs:
        if len(told) > 0 and told[-1][0] == word:
            told[-1] = (word, told[-1][1] + often)
        else:
            told.append((word, often))
    return told


def fewest(table):
    runs, sign = gaps_between_halves(table)
    refuse_beyond(max(abs(runs[0]), abs(runs[-1])))
    # One half between each two runs, and two more where the sign is -1.
    halves = len(runs) - sign
    # Brought behind all runs, the halves turn each other run into glasses.
    first = 0
    while len(runs) > 0 and runs[0] <= 0:
        halves += runs[0]
        first += 1
        runs = begun_anew(runs)
    while len(runs) > 0 and runs[-1] <= 0:
        halves += runs[-1]
        runs = about(begun_anew(about(runs)))
    halves = halves % HALVES_TO_SELF
    count = sum(runs) + len(HALF) * halves
    refuse_beyond(count)
    row = [(WORDS[(first + number) % 2], often) for number, often in enumerate(runs)]
    return (count, joined(row + list(HALF) * halves))


def unit_run(word, often, power):
    return (word, (often if word == "gap" else often * power, 1))


def run_table(runs, power):
    return table_of([unit_run(word, often, power) for word, often in runs])
