"""[4.1], [4.3], and of [0.2] what it says of images."""

import copy
import unittest

from roundglass.benches import table_of
from roundglass.images import image, setting
from roundglass.ratios import is_ratio
from roundglass.tables import led
from things import Seeded, fraction, of

SELF = ((1, 1), (0, 1), (0, 1), (1, 1))
BENCH = [("gap", (2, 1)), ("glass", (1, 3)), ("stop", (5, 1)), ("gap", (6, 1))]


def some_tables(seed, count, bound=9):
    seeded = Seeded(seed)
    benches = [seeded.bench(number % 7, 3) for number in range(count)]
    return [SELF] + [seeded.table(bound) for number in range(count)] + [table_of(bench) for bench in benches]


def some_planes(seed, count, bound=9):
    seeded = Seeded(seed)
    return [(0, 1), (1, 1), (-1, 1), (3, 1), (-3, 1)] + [seeded.ratio(bound) for number in range(count)]


def height_at(table, x, h, slope, z):
    # The height at z behind of a ray that leaves x ahead at height h with a slope.
    entering = of(fraction(h) + fraction(x) * fraction(slope))
    y, u = led(table, (entering, slope))
    return fraction(y) + fraction(z) * fraction(u)


def with_number(bench, k, number):
    return bench[:k] + [(bench[k][0], number)] + bench[k + 1:]


class Image(unittest.TestCase):
    def test_by_hand(self):
        glass = table_of([("glass", (1, 2))])
        for x, told in (
            ((4, 1), ((4, 1), (-1, 1))),
            ((3, 1), ((6, 1), (-2, 1))),
            ((6, 1), ((3, 1), (-1, 2))),
            ((1, 1), ((-2, 1), (2, 1))),
            ((0, 1), ((0, 1), (1, 1))),
            ((-2, 1), ((1, 1), (1, 2))),
            ((2, 1), (None, None)),
            (None, ((2, 1), None)),
        ):
            self.assertEqual(image(glass, x), told)
        self.assertEqual(image(table_of(BENCH), (3, 1)), ((3, 2), (-3, 2)))

    def test_by_a_table_whose_c_is_0(self):
        for table in (SELF, table_of([("gap", (3, 2))]), ((2, 1), (5, 1), (0, 1), (1, 2)), ((-1, 1), (0, 1), (0, 1), (-1, 1))):
            self.assertEqual(image(table, None), (None, None))
            self.assertIsNotNone(image(table, (7, 1))[0])
        self.assertEqual(image(SELF, (5, 1)), ((-5, 1), (1, 1)))
        self.assertEqual(image(table_of([("gap", (3, 2))]), (5, 1)), ((-13, 2), (1, 1)))
        self.assertEqual(image(((2, 1), (5, 1), (0, 1), (1, 2)), (1, 1)), ((-14, 1), (2, 1)))

    def test_every_slope_comes_together(self):
        far = 0
        for table in some_tables(1, 30):
            for x in some_planes(2, 6):
                z, m = image(table, x)
                if z is None:
                    far += 1
                    self.assertIsNone(m)
                    # All rays from one point leave with one slope.
                    slopes = {led(table, (of(1 + fraction(x) * slope), of(fraction((slope, 1)))))[1] for slope in range(4)}
                    self.assertEqual(len(slopes), 1)
                    continue
                self.assertTrue(is_ratio(z) and is_ratio(m))
                for h in ((0, 1), (1, 1), (-2, 3)):
                    for slope in ((0, 1), (1, 1), (-5, 7)):
                        self.assertEqual(height_at(table, x, h, slope, z), fraction(m) * fraction(h))
        self.assertGreater(far, 0)

    def test_of_far_off(self):
        for table in some_tables(3, 30):
            z, m = image(table, None)
            self.assertIsNone(m)
            if z is None:
                self.assertEqual(table[2], (0, 1))
                continue
            self.assertTrue(is_ratio(z))
            # Rays of one slope come to one height at z, whatever their own.
            for slope in ((0, 1), (2, 5)):
                heights = {height_at(table, (0, 1), h, slope, z) for h in ((0, 1), (1, 1), (-2, 3))}
                self.assertEqual(len(heights), 1)

    def test_whose_image_is_far_off(self):
        for table in some_tables(4, 20):
            if table[2] != (0, 1):
                x = of(-fraction(table[3]) / fraction(table[2]))
                self.assertEqual(image(table, x), (None, None))

    def test_an_answer_is_a_pair(self):
        for x in (None, (2, 1), (3, 1)):
            told = image(table_of([("glass", (1, 2))]), x)
            self.assertIsInstance(told, tuple)
            self.assertEqual(len(told), 2)

    def test_of_12_figures_and_again(self):
        seeded = Seeded(5)
        table = table_of(seeded.bench(12, 10 ** 12 - 1))
        x = seeded.ratio(10 ** 12 - 1)
        z, m = image(table, x)
        self.assertEqual(height_at(table, x, (1, 7), (2, 3), z), fraction(m) / 7)
        again, enlarged = image(table, z)
        self.assertEqual(height_at(table, z, m, (2, 3), again), fraction(m) * fraction(enlarged))


class Setting(unittest.TestCase):
    def test_by_hand(self):
        bench = [("gap", (1, 1)), ("glass", (1, 1)), ("gap", (1, 1))]
        # From 3 ahead of the glass to 6 behind it takes a half.
        self.assertEqual(setting(bench, 1, (2, 1), (5, 1)), ("one", (1, 2)))
        # From 2 to 2 by a glass of 1: nothing of the first gap is left but what x has too much.
        self.assertEqual(setting(bench, 0, (2, 1), (1, 1)), ("one", (0, 1)))
        self.assertEqual(setting(bench, 2, (1, 1), (5, 1)), ("one", (-3, 1)))
        self.assertEqual(setting(bench, 0, (5, 1), (1, 1)), ("one", (-3, 1)))
        self.assertEqual(setting(tuple(bench), 1, (2, 1), (5, 1)), ("one", (1, 2)))

    def test_by_each(self):
        level = [("glass", (1, 3)), ("gap", (4, 1)), ("glass", (1, 2))]
        self.assertEqual(setting(level, 1, (3, 1), (2, 1)), ("all",))
        self.assertEqual(setting([("glass", (1, 3))], 0, (0, 1), (0, 1)), ("all",))
        middle = [("gap", (1, 1)), ("glass", (1, 1)), ("gap", (1, 1))]
        self.assertEqual(setting(middle, 1, (-1, 1), (-1, 1)), ("all",))

    def test_by_none(self):
        level = [("glass", (1, 3)), ("gap", (4, 1)), ("glass", (1, 2))]
        self.assertEqual(setting(level, 1, (3, 1), (1, 1)), ("none",))
        self.assertEqual(setting(level, 1, (4, 1), (2, 1)), ("none",))
        self.assertEqual(setting([("glass", (1, 3))], 0, (0, 1), (1, 1)), ("none",))
        self.assertEqual(setting([("glass", (1, 3))], 0, (1, 1), (0, 1)), ("none",))

    def check(self, bench, k, x, z):
        told = setting(bench, k, x, z)
        self.assertEqual(setting(tuple(bench), k, x, z), told)
        self.assertIsInstance(told, tuple)
        tries = [(0, 1), (1, 1), (-1, 1), (2, 1), (7, 5), bench[k][1]]
        fit = [image(table_of(with_number(bench, k, number)), x)[0] == z for number in tries]
        if told[0] == "one":
            self.assertEqual(len(told), 2)
            self.assertTrue(is_ratio(told[1]))
            self.assertEqual(image(table_of(with_number(bench, k, told[1])), x)[0], z)
            self.assertEqual(fit, [number == told[1] for number in tries])
        else:
            self.assertEqual(fit, [told == ("all",)] * len(tries))
            self.assertIn(told, (("all",), ("none",)))
        return told[0]

    def test_as_told(self):
        seeded = Seeded(6)
        words = set()
        for number in range(150):
            bench = seeded.bench(1 + number % 6, 2)
            for k in [k for k, part in enumerate(bench) if part[0] != "stop"]:
                for x in ((0, 1), (1, 1), (-2, 1), (1, 2)):
                    for z in ((0, 1), (1, 1), (-1, 2), image(table_of(bench), x)[0]):
                        if z is not None:
                            words.add(self.check(bench, k, x, z))
        self.assertEqual(words, {"one", "all", "none"})

    def test_its_own_number_where_it_is_sharp(self):
        seeded = Seeded(7)
        for number in range(40):
            bench = seeded.bench(5)
            x = seeded.ratio()
            z = image(table_of(bench), x)[0]
            for k, part in enumerate(bench):
                if part[0] != "stop" and z is not None:
                    self.assertIn(setting(bench, k, x, z), (("one", part[1]), ("all",)))

    def test_of_12_figures(self):
        seeded = Seeded(8)
        wide = 10 ** 12 - 1
        bench = [("glass", seeded.ratio(wide)), ("gap", of(abs(fraction(seeded.ratio(wide)))))] * 6
        for k in (0, 5, 6, 11):
            self.assertEqual(self.check(bench, k, seeded.ratio(wide), seeded.ratio(wide)), "one")

    def test_the_bench_stays(self):
        bench = copy.deepcopy(BENCH)
        first = setting(bench, 1, (1, 1), (1, 1))
        self.assertEqual(bench, BENCH)
        self.assertEqual(setting(bench, 1, (1, 1), (1, 1)), first)


if __name__ == "__main__":
    unittest.main()
