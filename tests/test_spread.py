"""[10.2], and of [0.2] what it says of it."""

import copy
import itertools
import unittest

from roundglass.errors import NoWhole, TooMany
from roundglass.spread import spread
from roundglass.tables import is_table, undone
from roundglass.units import run_table
from test_units import SELF, some_rows, table


class Spread(unittest.TestCase):
    def test_by_hand(self):
        self.assertEqual(spread(SELF), [])
        self.assertEqual(spread(table(1, 5, 0, 1)), [("gap", 5)])
        self.assertEqual(spread(table(1, 0, 5, 1)), [("glass", 5)])
        self.assertEqual(spread(table(1, 1, 2, 3)), [("gap", 1), ("glass", 2)])
        self.assertEqual(spread(table(3, 1, 2, 1)), [("glass", 2), ("gap", 1)])
        self.assertEqual(spread(table(2, 1, 1, 1)), [("glass", 1), ("gap", 1)])

    def test_the_runs_of_a_row_told_again(self):
        for runs in some_rows(1, 300):
            told = spread(run_table(runs, -1))
            self.assertIsInstance(told, list)
            self.assertTrue(all(isinstance(run, tuple) for run in told))
            self.assertEqual(told, runs)

    def test_all_rows_of_some_parts(self):
        for length in range(9):
            for words in itertools.product(("gap", "glass"), repeat=length):
                runs = [(word, len(list(row))) for word, row in itertools.groupby(words)]
                self.assertEqual(spread(run_table(runs, -1)), runs)

    def test_none_just_where_an_entry_is_below_0(self):
        seen = set()
        for a, b, c in itertools.product(range(-8, 9), repeat=3):
            if a != 0 and (1 + b * c) % a == 0:
                told = table(a, b, c, (1 + b * c) // a)
                runs = spread(told)
                below = min(entry[0] for entry in told) < 0
                seen.add(below)
                self.assertEqual(runs is None, below)
                if not below:
                    self.assertEqual(run_table(runs, -1), told)
        self.assertEqual(seen, {True, False})
        for told in (table(-1, 0, 0, -1), table(0, -1, 1, 0), table(0, 1, -1, 0), table(1, -1, 0, 1), table(0, 1, -1, 9)):
            self.assertIsNone(spread(told))
        self.assertIsNone(spread(undone(table(2, 1, 1, 1))))

    def test_4000_parts_and_4001(self):
        for runs in (
            [("gap", 4000)], [("glass", 4000)], [("gap", 1), ("glass", 3999)], [("glass", 1999), ("gap", 2001)],
            [("gap", 1), ("glass", 1)] * 2000, [("glass", 400), ("gap", 400)] * 5,
        ):
            self.assertEqual(spread(run_table(runs, -1)), runs)
            more = runs[:-1] + [(runs[-1][0], runs[-1][1] + 1)]
            self.assertRaises(TooMany, spread, run_table(more, -1))
            other = "gap" if runs[0][0] == "glass" else "glass"
            self.assertRaises(TooMany, spread, run_table([(other, 1)] + runs, -1))

    def test_far_too_many(self):
        great = 10 ** 51 - 1
        for told in (
            table(1, great, 0, 1), table(1, 0, great, 1), table(great, great - 1, 1, 1), table(1, 1, great - 1, great),
            table(10 ** 25, 10 ** 50 - 1, 1, 10 ** 25),
        ):
            self.assertTrue(is_table(told))
            self.assertRaises(TooMany, spread, told)

    def test_below_0_comes_ahead_of_too_many(self):
        great = 10 ** 51 - 1
        for told in (table(1, -great, 0, 1), table(1, 0, -great, 1), table(-1, great, 0, -1), table(great, -1, 1, 0)):
            self.assertIsNone(spread(told))

    def test_of_51_figures(self):
        runs = [("gap", 1), ("glass", 1)] * 121
        told = run_table(runs, -1)
        self.assertEqual(max(len(str(entry[0])) for entry in told), 51)
        self.assertEqual(spread(told), runs)

    def test_an_entry_that_is_no_whole_number(self):
        half, great = (1, 2), (10 ** 50, 7)
        for told in (
            ((1, 1), half, (0, 1), (1, 1)), ((1, 1), (0, 1), half, (1, 1)), ((2, 1), (0, 1), (0, 1), half),
            (half, (0, 1), (0, 1), (2, 1)), ((1, 1), great, (0, 1), (1, 1)), ((1, 1), (-1, 2), (0, 1), (1, 1)),
            ((-2, 1), (0, 1), (0, 1), (-1, 2)),
        ):
            self.assertTrue(is_table(told))
            self.assertRaises(NoWhole, spread, told)

    def test_lists_are_the_askers_own(self):
        for told in (SELF, table(1, 5, 0, 1), table(2, 1, 1, 1)):
            kept = copy.deepcopy(told)
            first = spread(told)
            copied = list(first)
            first.append(("gap", 1))
            first.insert(0, ("glass", 9))
            self.assertEqual(spread(told), copied)
            self.assertEqual(told, kept)


if __name__ == "__main__":
    unittest.main()
