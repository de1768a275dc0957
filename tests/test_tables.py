"""[2.1], [2.2], and of [0.2] and [0.3] what they say of tables and rays."""

import unittest

from roundglass.ratios import is_ratio, minus, times
from roundglass.tables import behind, cross, is_ray, is_table, led, power, turned, undone
from things import GREAT, NOT_RATIO, WIDE, Seeded, fraction, nests, of, rows

SELF = ((1, 1), (0, 1), (0, 1), (1, 1))
GAP = ((1, 1), (2, 1), (0, 1), (1, 1))
GLASS = ((1, 1), (0, 1), (-1, 3), (1, 1))
QUARTER = ((0, 1), (1, 1), (-1, 1), (0, 1))
LEVEL = ((1, 1), (0, 1))
AXIS = ((0, 1), (1, 1))


def opposite(one):
    return (-one[0], one[1])


def some_tables(seed, count, bound=9):
    seeded = Seeded(seed)
    return [SELF, GAP, GLASS, QUARTER] + [seeded.table(bound) for number in range(count)]


def some_rays(seed, count, bound=9):
    seeded = Seeded(seed)
    return [((0, 1), (0, 1)), LEVEL, AXIS] + [seeded.ray(bound) for number in range(count)]


def great_table():
    # Entries of up to 300 figures with bottoms unlike one another.
    gap, glass = (10 ** 99 + 7, 10 ** 98 + 3), (-(10 ** 99) - 9, 10 ** 97 + 9)
    made = behind(behind(((1, 1), gap, (0, 1), (1, 1)), ((1, 1), (0, 1), glass, (1, 1))), GAP)
    return behind(made, GLASS)


class Kinds(unittest.TestCase):
    def test_rays(self):
        for ray in some_rays(1, 20) + [((GREAT, WIDE), (-GREAT, 1))]:
            self.assertIs(is_ray(ray), True)
            self.assertIs(is_ray(list(ray)), False)
            self.assertIs(is_ray(ray[:1]), False)
            self.assertIs(is_ray(ray + ((1, 1),)), False)

    def test_a_ray_is_of_ratios(self):
        for thing in NOT_RATIO:
            self.assertIs(is_ray((thing, (1, 1))), False)
            self.assertIs(is_ray(((1, 1), thing)), False)

    def test_tables(self):
        for table in some_tables(2, 20) + [great_table()]:
            self.assertIs(is_table(table), True)
            self.assertIs(is_table(list(table)), False)
            self.assertIs(is_table(table[:3]), False)
            self.assertIs(is_table(table + ((0, 1),)), False)

    def test_a_table_is_of_ratios(self):
        for thing in NOT_RATIO:
            for place in range(4):
                entries = list(SELF)
                entries[place] = thing
                self.assertIs(is_table(tuple(entries)), False)

    def test_not_in_lowest_terms_though_1_is_left(self):
        self.assertIs(is_table(((2, 2), (0, 1), (0, 1), (1, 1))), False)
        self.assertIs(is_table(((1, 1), (0, 2), (0, 1), (1, 1))), False)
        self.assertIs(is_table(((1, 1), [3, 1], (0, 1), (1, 1))), False)
        self.assertIs(is_table(((-1, -1), (0, 1), (0, 1), (1, 1))), False)
        self.assertIs(is_table(((True, 1), (0, 1), (0, 1), (1, 1))), False)

    def test_a_d_less_b_c_is_1(self):
        one, nought, two = (1, 1), (0, 1), (2, 1)
        self.assertIs(is_table((nought, one, one, nought)), False)
        self.assertIs(is_table((nought, one, (-1, 1), nought)), True)
        self.assertIs(is_table((two, nought, nought, (1, 2))), True)
        self.assertIs(is_table((two, one, one, one)), True)
        self.assertIs(is_table((one, one, one, one)), False)
        self.assertIs(is_table((two, nought, nought, one)), False)
        self.assertIs(is_table((nought, nought, nought, nought)), False)
        self.assertIs(is_table(((GREAT, 1), (WIDE, 1), (1, 1), (1, 1))), False)

    def test_of_small_entries(self):
        span = range(-2, 3)
        for a in span:
            for b in span:
                for c in span:
                    for d in span:
                        told = is_table(((a, 1), (b, 1), (c, 1), (d, 1)))
                        self.assertIs(told, a * d - b * c == 1)

    def test_deep_and_wide_things(self):
        for thing in nests(5) + rows(70) + list(NOT_RATIO):
            self.assertIs(is_ray(thing), thing == ((1, 2), (1, 2)))
            self.assertIs(is_table(thing), False)


class Led(unittest.TestCase):
    def test_by_hand(self):
        self.assertEqual(led(((1, 2), (3, 1), (-1, 4), (1, 2)), ((2, 1), (1, 3))), ((2, 1), (-1, 3)))

    def test_as_told(self):
        for table in some_tables(3, 30):
            a, b, c, d = [fraction(entry) for entry in table]
            for ray in some_rays(4, 10):
                y, u = fraction(ray[0]), fraction(ray[1])
                told = led(table, ray)
                self.assertEqual(told, (of(a * y + b * u), of(c * y + d * u)))
                self.assertTrue(is_ray(told))

    def test_great_numbers(self):
        seeded = Seeded(5)
        for number in range(5):
            ray = seeded.ray(WIDE)
            self.assertEqual(led(undone(great_table()), led(great_table(), ray)), ray)


class Behind(unittest.TestCase):
    def test_order(self):
        # First the gap, then the glass.
        self.assertEqual(behind(GAP, GLASS), ((1, 1), (2, 1), (-1, 3), (1, 3)))
        self.assertEqual(behind(GLASS, GAP), ((1, 3), (2, 1), (-1, 3), (1, 1)))

    def test_leads_first_by_the_one_then_by_the_other(self):
        for one in some_tables(6, 8):
            for other in some_tables(7, 8):
                both = behind(one, other)
                self.assertTrue(is_table(both))
                for ray in some_rays(8, 3):
                    self.assertEqual(led(both, ray), led(other, led(one, ray)))

    def test_great_numbers(self):
        both = behind(great_table(), turned(great_table()))
        ray = ((GREAT, WIDE), (-WIDE, GREAT))
        self.assertTrue(is_table(both))
        self.assertEqual(led(both, ray), led(turned(great_table()), led(great_table(), ray)))


class Undone(unittest.TestCase):
    def test_leads_back(self):
        for table in some_tables(9, 20):
            back = undone(table)
            self.assertTrue(is_table(back))
            self.assertEqual(behind(table, back), SELF)
            self.assertEqual(behind(back, table), SELF)
            for ray in some_rays(10, 4):
                self.assertEqual(led(back, led(table, ray)), ray)

    def test_by_hand(self):
        self.assertEqual(undone(((2, 1), (3, 1), (1, 1), (2, 1))), ((2, 1), (-3, 1), (-1, 1), (2, 1)))
        self.assertEqual(undone(((2, 1), (0, 1), (5, 1), (1, 2))), ((1, 2), (0, 1), (-5, 1), (2, 1)))


class Turned(unittest.TestCase):
    def test_by_hand(self):
        self.assertEqual(turned(((2, 1), (0, 1), (5, 1), (1, 2))), ((1, 2), (0, 1), (5, 1), (2, 1)))

    def test_leads_the_ray_back_with_slopes_turned(self):
        for table in some_tables(12, 20):
            self.assertEqual(turned(turned(table)), table)
            self.assertTrue(is_table(turned(table)))
            for y, u in some_rays(13, 4):
                z, w = led(table, (y, u))
                self.assertEqual(led(turned(table), (z, opposite(w))), (y, opposite(u)))


class Cross(unittest.TestCase):
    def test_by_hand(self):
        self.assertEqual(cross(((1, 1), (2, 1)), ((3, 1), (5, 1))), (-1, 1))
        self.assertEqual(cross(LEVEL, AXIS), (1, 1))
        self.assertEqual(cross(AXIS, LEVEL), (-1, 1))
        self.assertEqual(cross(LEVEL, LEVEL), (0, 1))

    def test_as_told(self):
        for one in some_rays(14, 10):
            for other in some_rays(15, 10):
                y, u, z, w = [fraction(entry) for entry in one + other]
                self.assertEqual(cross(one, other), of(y * w - z * u))
                self.assertTrue(is_ratio(cross(one, other)))

    def test_no_table_changes_it(self):
        one, other = some_rays(16, 2)[-2:]
        for table in some_tables(17, 20) + [great_table()]:
            self.assertEqual(cross(led(table, one), led(table, other)), cross(one, other))

    def test_two_rays_tell_a_table(self):
        for table in some_tables(18, 10):
            one, other = ((1, 2), (3, 1)), ((2, 3), (-1, 5))
            share = cross(one, other)
            self.assertNotEqual(share, (0, 1))
            heights = [led(table, ray)[0] for ray in (one, other)]
            told = minus(times(heights[0], other[1]), times(heights[1], one[1]))
            self.assertEqual(told, times(table[0], share))


class Power(unittest.TestCase):
    def test_of_none(self):
        for table in some_tables(19, 10) + [great_table()]:
            self.assertEqual(power(table, 0), SELF)
            self.assertEqual(power(table, 1), table)

    def test_to_12(self):
        for table in some_tables(20, 12):
            told = SELF
            for n in range(13):
                self.assertEqual(power(table, n), told)
                told = behind(told, table)

    def test_whole_numbers_to_60(self):
        tables = (GAP, QUARTER, ((1, 1), (999, 1), (0, 1), (1, 1)), ((2, 1), (1, 1), (1, 1), (1, 1)))
        tables += (((-999, 1), (500, 1), (-2, 1), (1, 1)), ((999, 1), (998, 1), (1, 1), (1, 1)))
        for table in tables:
            self.assertTrue(is_table(table))
            told = SELF
            for n in range(61):
                if n in (13, 31, 59, 60):
                    self.assertEqual(power(table, n), told)
                told = behind(told, table)

    def test_by_hand(self):
        self.assertEqual(power(GAP, 60), ((1, 1), (120, 1), (0, 1), (1, 1)))
        self.assertEqual(power(QUARTER, 2), ((-1, 1), (0, 1), (0, 1), (-1, 1)))
        self.assertEqual(power(QUARTER, 60), SELF)

    def test_great_numbers(self):
        table = great_table()
        twelfth = power(table, 12)
        self.assertEqual(behind(power(table, 5), power(table, 7)), twelfth)
        self.assertTrue(is_table(twelfth))
        self.assertEqual(power(power(table, 3), 4), twelfth)

    def test_wide_whole_entries(self):
        table = ((WIDE, 1), (WIDE - 1, 1), (1, 1), (1, 1))
        self.assertTrue(is_table(table))
        told = SELF
        for n in range(12):
            told = behind(told, table)
        self.assertEqual(power(table, 12), told)


if __name__ == "__main__":
    unittest.main()
