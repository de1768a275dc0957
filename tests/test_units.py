"""[10.1], of [0.4] that no fewer are told than the fewest and the told row has the table, and of [0.2] what it says."""

import copy
import unittest

from roundglass.benches import table_of
from roundglass.errors import GlassError, NoWhole, TooMany
from roundglass.tables import behind, is_table, undone
from roundglass.units import fewest, run_table
from things import Seeded

GAP = ((1, 1), (1, 1), (0, 1), (1, 1))
GLASS = ((1, 1), (0, 1), (-1, 1), (1, 1))
SELF = ((1, 1), (0, 1), (0, 1), (1, 1))


def table(a, b, c, d):
    return ((a, 1), (b, 1), (c, 1), (d, 1))


def all_rows(most):
    # By all rows of so many unit parts at most: each table with the length of its shortest row.
    found = {SELF: 0}
    layer = [SELF]
    for length in range(1, most + 1):
        ahead = []
        for one in layer:
            for part in (GAP, GLASS):
                longer = behind(one, part)
                if longer not in found:
                    found[longer] = length
                    ahead.append(longer)
        layer = ahead
    return found


def slow_table(runs, power):
    parts = []
    for word, often in runs:
        parts += [(word, (1, 1) if word == "gap" else (power, 1))] * often
    return table_of(parts)


def some_rows(seed, count, most=9):
    seeded = Seeded(seed)
    rows = []
    for number in range(count):
        words = ("gap", "glass") if seeded.whole(1) > 0 else ("glass", "gap")
        rows.append([(words[k % 2], seeded.source.randint(1, most)) for k in range(number % 9)])
    return rows


class Fewest(unittest.TestCase):
    def check(self, told):
        answer = fewest(told)
        self.assertIsInstance(answer, tuple)
        count, runs = answer
        self.assertIsInstance(runs, list)
        self.assertEqual(count, sum(often for word, often in runs))
        self.assertTrue(all(isinstance(run, tuple) and run[0] in ("gap", "glass") and run[1] >= 1 for run in runs))
        self.assertTrue(all(one[0] != other[0] for one, other in zip(runs, runs[1:])))
        self.assertEqual(run_table(runs, 1), told)
        self.assertEqual(slow_table(runs, 1), told)
        self.assertEqual(fewest(told), answer)
        return count

    def test_the_table_that_leads_each_ray_to_itself(self):
        self.assertEqual(fewest(SELF), (0, []))

    def test_gaps_and_glasses(self):
        for number in (1, 2, 7, 4000):
            self.assertEqual(fewest(table(1, number, 0, 1)), (number, [("gap", number)]))
            self.assertEqual(fewest(table(1, 0, -number, 1)), (number, [("glass", number)]))

    def test_gaps_and_glasses_below_nought(self):
        # Each four undone take 8 parts; what is left of three, two or one takes 9, 10 or 11.
        for number, count in ((1, 11), (2, 10), (3, 9), (4, 8), (5, 19), (8, 16), (100, 200), (101, 211)):
            self.assertEqual(self.check(table(1, -number, 0, 1)), count)
            self.assertEqual(self.check(table(1, 0, number, 1)), count)

    def test_all_entries_taken_by_minus_1(self):
        self.assertEqual(self.check(table(-1, 0, 0, -1)), 6)
        self.assertEqual(self.check(table(-1, -5, 0, -1)), 11)
        self.assertEqual(self.check(table(-1, 4, 0, -1)), 14)

    def test_quarter_turns(self):
        self.assertEqual(self.check(table(0, 1, -1, 0)), 3)
        self.assertEqual(self.check(table(0, -1, 1, 0)), 9)
        self.assertEqual(self.check(table(1, 1, -1, 0)), 2)
        self.assertEqual(self.check(table(0, 1, -1, 1)), 2)

    def test_no_shorter_row_by_all_rows(self):
        rows = all_rows(13)
        self.assertGreater(len(rows), 2000)
        for told, length in rows.items():
            self.assertEqual(self.check(told), length, told)

    def test_rows_of_several_runs(self):
        for runs in some_rows(1, 300):
            told = run_table(runs, 1)
            self.assertLessEqual(self.check(told), sum(often for word, often in runs))
            # Where no run but the first and the last is of one part this row is the shortest.
            if all(often > 1 for word, often in runs[1:-1]):
                self.assertEqual(self.check(told), sum(often for word, often in runs))

    def test_small_tables_and_these_undone(self):
        seen = 0
        for a in range(-9, 10):
            for b in range(-9, 10):
                for c in range(-9, 10):
                    if a != 0 and (1 + b * c) % a == 0:
                        told = table(a, b, c, (1 + b * c) // a)
                        # A row ahead and one behind it that leads back make twelve parts, or twice or thrice so many.
                        self.assertEqual((self.check(told) + self.check(undone(told))) % 12, 0)
                        seen += 1
        self.assertGreater(seen, 500)

    def test_a_part_more_changes_the_count_by_one_or_saves_eleven(self):
        for runs in some_rows(2, 60, 4):
            told = run_table(runs, 1)
            count = self.check(told)
            for part in (GAP, GLASS):
                for longer in (behind(told, part), behind(part, told)):
                    self.assertIn(self.check(longer) - count, (1, -11))

    def test_4000_and_4001(self):
        self.assertEqual(self.check(table(1, 4000, 0, 1)), 4000)
        self.assertEqual(self.check(table(1, 0, -4000, 1)), 4000)
        self.assertEqual(self.check(table(-1, -3994, 0, -1)), 4000)
        self.assertEqual(self.check(table(1, -2000, 0, 1)), 4000)
        self.assertEqual(self.check(table(1, 0, 2000, 1)), 4000)
        for runs in ([("gap", 1990), ("glass", 2010)], [("glass", 3999), ("gap", 1)], [("gap", 2), ("glass", 2)] * 1000):
            self.assertEqual(self.check(run_table(runs, 1)), 4000)
            more = runs[:-1] + [(runs[-1][0], runs[-1][1] + 1)]
            self.assertRaises(TooMany, fewest, run_table(more, 1))
            self.assertRaises(TooMany, fewest, run_table([("gap" if runs[0][0] == "glass" else "glass", 1)] + runs, 1))
        # 1999 undone take 4001.
        for told in (
            table(1, 4001, 0, 1), table(1, 0, -4001, 1), table(-1, -3995, 0, -1), table(1, -1999, 0, 1), table(1, 0, 1999, 1),
            table(1, -2001, 0, 1), table(-1, 3999, 0, -1),
        ):
            self.assertRaises(TooMany, fewest, told)

    def test_far_too_many(self):
        great = 10 ** 51 - 1
        for told in (
            table(1, great, 0, 1), table(1, -great, 0, 1), table(1, 0, great, 1), table(1, 0, -great, 1),
            table(-1, great, 0, -1), table(0, 1, -1, great), table(0, -1, 1, great), table(great, -1, 1, 0),
            table(10 ** 25, 10 ** 50 - 1, 1, 10 ** 25), table(great, great - 1, 1, 1), table(1, 1, great - 1, great),
            table(-great, 1 - great, -1, -1), table(great, 1, -1, 0),
            # Many gaps undone ahead of, or behind, many glasses undone.
            table(1, -10 ** 25, 10 ** 25, 1 - 10 ** 50), table(1 - 10 ** 50, -10 ** 25, 10 ** 25, 1),
        ):
            self.assertTrue(is_table(told), told)
            self.assertRaises(TooMany, fewest, told)

    def test_of_51_figures(self):
        found = 0
        for runs in some_rows(3, 40, 5):
            told = run_table(runs * 12, 1)
            found = max([found] + [len(str(abs(entry[0]))) for entry in told])
            self.check(told)
            self.check(undone(told))
        self.assertGreater(found, 50)

    def test_what_is_told_is_handed_in_again(self):
        runs = fewest(run_table([("gap", 3), ("glass", 4)] * 400, 1))[1]
        self.assertEqual(self.check(run_table(runs, 1)), 2800)
        self.assertEqual(self.check(run_table(tuple(runs), 1)), 2800)

    def test_an_entry_that_is_no_whole_number(self):
        half = (1, 2)
        for told in (
            ((1, 1), half, (0, 1), (1, 1)), ((1, 1), (0, 1), half, (1, 1)), ((2, 1), (0, 1), (0, 1), half),
            (half, (0, 1), (0, 1), (2, 1)), ((1, 1), (10 ** 51, 7), (0, 1), (1, 1)), ((1, 1), (0, 1), (-10 ** 51, 7), (1, 1)),
        ):
            self.assertTrue(is_table(told))
            with self.assertRaises(NoWhole) as seen:
                fewest(told)
            self.assertIsInstance(seen.exception, GlassError)

    def test_lists_are_the_askers_own(self):
        for told in (SELF, table(1, 5, 0, 1), table(0, -1, 1, 0), table(-1, 0, 0, -1), table(7, 3, 2, 1)):
            kept = copy.deepcopy(told)
            first = fewest(told)
            copied = list(first[1])
            first[1].append(("gap", 1))
            first[1].insert(0, ("glass", 9))
            self.assertEqual(fewest(told), (first[0], copied))
            self.assertEqual(told, kept)


class RunTable(unittest.TestCase):
    def test_of_no_runs(self):
        for power in (1, -1):
            self.assertEqual(run_table([], power), SELF)
            self.assertEqual(run_table((), power), SELF)

    def test_of_either_power(self):
        self.assertEqual(run_table([("gap", 3)], 1), table(1, 3, 0, 1))
        self.assertEqual(run_table([("gap", 3)], -1), table(1, 3, 0, 1))
        self.assertEqual(run_table([("glass", 3)], 1), table(1, 0, -3, 1))
        self.assertEqual(run_table([("glass", 3)], -1), table(1, 0, 3, 1))
        self.assertEqual(run_table([("gap", 1), ("glass", 2)], 1), table(1, 1, -2, -1))
        self.assertEqual(run_table([("gap", 1), ("glass", 2)], -1), table(1, 1, 2, 3))

    def test_part_by_part(self):
        for runs in some_rows(4, 100):
            for power in (1, -1):
                kept = copy.deepcopy(runs)
                told = run_table(runs, power)
                self.assertEqual(told, slow_table(runs, power))
                self.assertEqual(run_table(tuple(runs), power), told)
                self.assertEqual(runs, kept)

    def test_of_many(self):
        self.assertEqual(run_table([("gap", 4000)], 1), table(1, 4000, 0, 1))
        runs = [("gap", 1), ("glass", 1)] * 2000
        self.assertEqual(run_table(runs, 1), slow_table(runs, 1))
        self.assertEqual(run_table(runs, -1), slow_table(runs, -1))


if __name__ == "__main__":
    unittest.main()
