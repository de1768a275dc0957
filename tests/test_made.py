"""[9.1], of [0.4] that no fewer are told than the fewest and the told bench has the table, and of [0.2] what it says."""

import copy
import itertools
import unittest
from fractions import Fraction

from roundglass.benches import is_bench, table_of
from roundglass.made import few_gaps, few_glasses
from roundglass.ratios import is_ratio
from roundglass.tables import behind, power
from things import Seeded, of

NOUGHT = (0, 1)
WIDE = 10 ** 12 - 1


def table(a, b, c, d):
    return tuple(of(Fraction(entry)) for entry in (a, b, c, d))


def gap(number):
    return ("gap", of(Fraction(number)))


def glass(number):
    return ("glass", of(Fraction(number)))


def count(bench, word):
    return len([part for part in bench if part[0] == word])


def small_tables():
    values = sorted({Fraction(top, bottom) for top in range(-3, 4) for bottom in (1, 2)})
    for a, b, c in itertools.product(values, repeat=3):
        if a != 0:
            yield table(a, b, c, (1 + b * c) / a)
        elif b != 0:
            for d in values:
                yield table(0, b, -1 / b, d)


def slow_fewest(most):
    # By all rows of parts of a few numbers, the fewest glasses and gaps of each table that they come to.
    gaps = [gap(number) for number in (Fraction(1, 2), 1, 2)]
    glasses = [glass(number) for number in (-2, -1, Fraction(-1, 2), Fraction(1, 2), 1, 2)]
    found = {}
    layer = {table(1, 0, 0, 1): [((0, 0), "")]}
    for length in range(most + 1):
        for told, ways in layer.items():
            for (by_glass, by_gap), last in ways:
                old = found.get(told, (9, 9))
                found[told] = (min(old[0], by_glass), min(old[1], by_gap))
        if length < most:
            ahead = {}
            for told, ways in layer.items():
                for (by_glass, by_gap), last in ways:
                    for part in (gaps if last != "gap" else []) + (glasses if last != "glass" else []):
                        step = (by_glass + (part[0] == "glass"), by_gap + (part[0] == "gap"))
                        ahead.setdefault(behind(told, table_of([part])), set()).add((step, part[0]))
            layer = ahead
    return found


class Made(unittest.TestCase):
    def check(self, told):
        for deed in (few_glasses, few_gaps):
            bench = deed(told)
            self.assertIsInstance(bench, list)
            self.assertTrue(is_bench(bench))
            self.assertLessEqual(len(bench), 7)
            self.assertTrue(all(part[0] in ("gap", "glass") and is_ratio(part[1]) and part[1] != NOUGHT for part in bench))
            self.assertTrue(all(one[0] != other[0] for one, other in zip(bench, bench[1:])), (told, bench))
            self.assertEqual(table_of(bench), told)
            self.assertEqual(deed(told), bench)
        return (count(few_glasses(told), "glass"), count(few_gaps(told), "gap"))

    def test_the_table_that_leads_each_ray_to_itself(self):
        self.assertEqual(few_glasses(table(1, 0, 0, 1)), [])
        self.assertEqual(few_gaps(table(1, 0, 0, 1)), [])

    def test_one_part(self):
        for number in (1, Fraction(2, 3), 10 ** 12 - 1):
            for deed in (few_glasses, few_gaps):
                self.assertEqual(deed(table(1, number, 0, 1)), [gap(number)])
                self.assertEqual(deed(table(1, 0, -number, 1)), [glass(number)])
                self.assertEqual(deed(table(1, 0, number, 1)), [glass(-number)])

    def test_none_to_three(self):
        for told, glasses, gaps in (
            (table(1, 0, 0, 1), 0, 0), (table(1, 5, 0, 1), 0, 1), (table(1, 0, 5, 1), 1, 0), (table(1, 0, -5, 1), 1, 0),
            (table_of([gap(1), glass(2), gap(3)]), 1, 2), (table_of([glass(1), gap(2), glass(3)]), 2, 1),
            # A gap below 0.
            (table(1, -1, 0, 1), 3, 2), (table(1, Fraction(-1, 10 ** 12), 0, 1), 3, 2),
            # All entries taken by -1.
            (table(-1, 0, 0, -1), 2, 2), (table(-1, 5, 0, -1), 2, 1), (table(-1, -5, 0, -1), 2, 2),
            (table(-1, 0, 5, -1), 2, 2), (table(-1, 0, -5, -1), 1, 2),
            # Heights enlarged.
            (table(2, 0, 0, Fraction(1, 2)), 3, 3), (table(Fraction(1, 2), 0, 0, 2), 3, 3),
            (table(-2, 0, 0, Fraction(-1, 2)), 2, 2), (table(2, 0, -1, Fraction(1, 2)), 3, 3),
            (table(2, 0, 1, Fraction(1, 2)), 2, 3), (table(3, 1, -1, 0), 2, 1), (table(3, -1, 1, 0), 2, 2),
            # Noughts in each place.
            (table(0, 1, -1, 0), 1, 1), (table(0, -1, 1, 0), 2, 2), (table(0, 1, -1, 7), 2, 1), (table(0, -1, 1, 7), 2, 2),
            (table(7, 1, -1, 0), 2, 1), (table(7, -1, 1, 0), 2, 2), (table(0, -1, 1, -7), 2, 2), (table(-7, -1, 1, 0), 2, 2),
            (table(0, 2, Fraction(-1, 2), Fraction(1, 2)), 1, 1), (table(0, Fraction(-1, 2), 2, 3), 2, 2),
        ):
            self.assertEqual(self.check(told), (glasses, gaps), told)

    def test_each_small_table(self):
        seen = set()
        for told in small_tables():
            seen.add(self.check(told))
        self.assertEqual({one for one, other in seen}, {0, 1, 2, 3})
        self.assertEqual({other for one, other in seen}, {0, 1, 2, 3})

    def test_no_fewer_by_a_slow_look(self):
        for told, (glasses, gaps) in slow_fewest(4).items():
            by_glass, by_gap = self.check(told)
            self.assertLessEqual(by_glass, glasses, told)
            self.assertLessEqual(by_gap, gaps, told)

    def test_the_fewest_are_as_few_as_by_any_bench(self):
        seeded = Seeded(1)
        for number in range(400):
            bench = [part for part in seeded.bench(number % 8, 3) if part[0] != "stop"]
            by_glass, by_gap = self.check(table_of(bench))
            self.assertLessEqual(by_glass, count(bench, "glass"))
            self.assertLessEqual(by_gap, count(bench, "gap"))

    def test_no_bench_of_fewer(self):
        # What is told is more than one glass only where c is 0 or the two gaps around it would come below 0, and so on.
        for told in small_tables():
            a, b, c, d = [Fraction(top, bottom) for top, bottom in told]
            by_glass, by_gap = self.check(told)
            self.assertEqual(by_glass == 0, c == 0 and a == 1 and b >= 0)
            if by_glass:
                self.assertEqual(by_glass == 1, c != 0 and (a - 1) / c >= 0 and (d - 1) / c >= 0)
            if by_glass > 1:
                self.assertEqual(by_glass == 2, b > 0 or a < 0 or d < 0 or c > 0)
            self.assertEqual(by_gap == 0, a == 1 and b == 0)
            if by_gap:
                self.assertEqual(by_gap == 1, b > 0)
            if by_gap > 1:
                self.assertEqual(by_gap == 2, b < 0 or a < 0)

    def test_of_12_figures(self):
        seeded = Seeded(2)
        seen = set()
        for number in range(60):
            told = seeded.table(WIDE)
            seen.add(self.check(told))
            seen.add(self.check(tuple((-top, bottom) for top, bottom in told)))
        self.assertGreater(len(seen), 3)

    def test_what_is_told_is_handed_in_again(self):
        seeded = Seeded(3)
        for number in range(10):
            bench = few_glasses(seeded.table(WIDE)) + few_gaps(seeded.table(WIDE))[:5]
            self.check(table_of(bench))
            self.check(power(seeded.table(WIDE), 5))

    def test_lists_are_the_askers_own(self):
        for told in (table(1, 0, 0, 1), table(1, 2, 0, 1), table(1, 0, 2, 1), table(2, 0, 0, Fraction(1, 2)), table(1, -1, 0, 1)):
            for deed in (few_glasses, few_gaps):
                kept = copy.deepcopy(told)
                first = deed(told)
                copied = list(first)
                first.append(("gap", (1, 1)))
                self.assertEqual(deed(told), copied)
                self.assertEqual(told, kept)


if __name__ == "__main__":
    unittest.main()
