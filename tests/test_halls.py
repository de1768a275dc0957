"""[7.1] to [7.4], and of [0.2] and [0.3] what they say of halls."""

import copy
import unittest
from fractions import Fraction
from math import isqrt

from roundglass.benches import table_of, turned_bench
from roundglass.halls import form, is_hall, kind, reach, round_of
from roundglass.ratios import is_ratio
from roundglass.tables import behind, is_ray, is_table, led, power
from rooms import (
    GAP, NOUGHT, OFF, OFF_WITHOUT, SAME, SHEAR, STILL, TURNS, all_kinds, hall_with, slow_numbers, slow_order, slow_reach,
    slow_round, slow_table, slow_word, some_halls, with_stops,
)
from things import GREAT, NOT_RATIO, WIDE, Seeded, fraction, nests, of, rows

SELF = ((1, 1), NOUGHT, NOUGHT, (1, 1))
HALL = ((1, 2), [("gap", (1, 1)), ("stop", (5, 1)), ("glass", (1, 3))], (-1, 4))


def some_rays(seed, count=4):
    seeded = Seeded(seed)
    return [((1, 1), NOUGHT), (NOUGHT, (1, 1)), STILL] + [seeded.ray(4) for number in range(count)]


class Kinds(unittest.TestCase):
    def test_halls(self):
        for near, bench, far in all_kinds() + some_halls(1, 40) + [HALL]:
            self.assertIs(is_hall((near, bench, far)), True)
            self.assertIs(is_hall((near, tuple(bench), far)), True)
        self.assertIs(is_hall(((GREAT, WIDE), [("glass", (-GREAT, WIDE))], (-GREAT, WIDE))), True)

    def test_of_eight_parts_and_of_nine(self):
        for part in (GAP, ("stop", (1, 1)), ("glass", (-1, 1))):
            for build in (list, tuple):
                self.assertIs(is_hall((NOUGHT, build([part] * 8), NOUGHT)), True)
                self.assertIs(is_hall((NOUGHT, build([part] * 9), NOUGHT)), False)
                self.assertIs(is_hall((NOUGHT, build([part] * 12), NOUGHT)), False)
                self.assertIs(is_hall((NOUGHT, build([part] * 13), NOUGHT)), False)

    def test_powers_that_are_no_ratios(self):
        for thing in NOT_RATIO:
            self.assertIs(is_hall((thing, [], NOUGHT)), False)
            self.assertIs(is_hall((NOUGHT, [], thing)), False)
            self.assertIs(is_hall((thing, HALL[1], thing)), False)

    def test_benches_that_are_none(self):
        for thing in (
            None, True, 0, "", "none", {}, NOUGHT, [1], [("gap", (-1, 1))], [("stop", NOUGHT)], [["gap", (1, 1)]],
            [("gap", (2, 2))], GAP, HALL, [[]], [GAP, ()],
        ):
            self.assertIs(is_hall((NOUGHT, thing, NOUGHT)), False, thing)

    def test_too_few_and_too_many_and_in_another_order(self):
        near, bench, far = HALL
        for thing in (
            (), (near,), (near, bench), (bench, far), (near, far), HALL + (far,), HALL + HALL, (near, far, bench),
            (bench, near, far), (near, bench, bench),
        ):
            self.assertIs(is_hall(thing), False, thing)

    def test_a_list_in_the_halls_place(self):
        self.assertIs(is_hall(list(HALL)), False)
        self.assertIs(is_hall([NOUGHT, [], NOUGHT]), False)
        for thing in (None, True, 0, 7, "", "0 | none | 0", {}, {0: NOUGHT, 1: [], 2: NOUGHT}, [], HALL[1]):
            self.assertIs(is_hall(thing), False, thing)

    def test_deep_and_wide_things(self):
        for thing in nests(5) + rows(70):
            self.assertIs(is_hall(thing), False)
            self.assertIs(is_hall((NOUGHT, thing, NOUGHT)), False)
        for thing in nests(4) + rows(60):
            self.assertIs(is_hall((thing, [], NOUGHT)), False)


class Round(unittest.TestCase):
    def test_by_hand(self):
        # (1, 0) stays by the gap, is (1, -2) behind the far mirror, (-1, -2) behind the gap, (-1, 1) behind the near one.
        hall = ((3, 1), [GAP], (2, 1))
        self.assertEqual(led(round_of(hall), ((1, 1), NOUGHT)), ((-1, 1), (1, 1)))
        # (0, 1) comes to (1, 1), (1, -1), (0, -1), and stays so by the near mirror.
        self.assertEqual(led(round_of(hall), (NOUGHT, (1, 1))), (NOUGHT, (-1, 1)))

    def test_mirrors_alone(self):
        self.assertEqual(round_of((NOUGHT, [], NOUGHT)), SELF)
        self.assertEqual(round_of(((1, 2), (), (1, 3))), ((1, 1), NOUGHT, (-5, 6), (1, 1)))

    def test_the_bench_comes_back_turned_about(self):
        near, bench, far = ((1, 2), [GAP, ("glass", (1, 3)), ("gap", (2, 1))], (1, 5))
        forth = behind(table_of(bench), table_of([("glass", far)]))
        back = behind(table_of(turned_bench(bench)), table_of([("glass", near)]))
        self.assertEqual(round_of((near, bench, far)), behind(forth, back))
        self.assertNotEqual(round_of((near, bench, far)), round_of((near, turned_bench(bench), far)))
        self.assertNotEqual(round_of((near, bench, far)), round_of((far, bench, near)))

    def test_part_by_part(self):
        for hall in all_kinds() + some_halls(2, 60):
            table = round_of(hall)
            self.assertTrue(is_table(table))
            self.assertEqual(round_of((hall[0], tuple(hall[1]), hall[2])), table)
            for ray in some_rays(3):
                self.assertEqual(led(table, ray), slow_round(hall, ray))

    def test_of_300_figures(self):
        seeded = Seeded(4)
        wide = 10 ** 300 - 1
        hall = (seeded.ratio(wide), seeded.bench(8, wide), seeded.ratio(wide))
        ray = seeded.ray(wide)
        self.assertEqual(led(round_of(hall), ray), slow_round(hall, ray))


class Kind(unittest.TestCase):
    def test_same(self):
        for n, hall in SAME.items():
            for one in (hall, with_stops(hall, 1), (hall[0], tuple(hall[1]), hall[2])):
                self.assertEqual(kind(one), ("same", n))
                for k in range(1, n):
                    self.assertNotEqual(power(round_of(one), k), SELF)
                self.assertEqual(power(round_of(one), n), SELF)
        self.assertEqual(kind(hall_with(1, near=Fraction(1, 3))), ("same", 6))
        self.assertEqual(kind(((1, 2), [("gap", NOUGHT)], (-1, 2))), ("same", 1))

    def test_turns(self):
        for hall in TURNS + [hall_with(Fraction(2 * 10 ** 40 - 1, 10 ** 40)), hall_with(Fraction(1, 10 ** 40) - 2)]:
            told = kind(hall)
            self.assertEqual(told, ("turns", form(hall)))
            self.assertTrue(-2 < slow_table(hall)[0] + slow_table(hall)[3] < 2)

    def test_shear(self):
        for t, halls in SHEAR.items():
            for hall in halls:
                word, ray = kind(hall)
                self.assertEqual(word, "shear")
                self.assertTrue(is_ray(ray))
                self.assertNotEqual(ray, STILL)
                end = slow_round(hall, ray)
                sign = t // 2
                self.assertEqual(end, (of(sign * fraction(ray[0])), of(sign * fraction(ray[1]))))
                self.assertEqual(slow_table(hall)[0] + slow_table(hall)[3], t)

    def test_off_by_a_ratio(self):
        for k, hall in OFF.items():
            self.assertEqual(kind(hall), ("off", k))
        for k in (Fraction(1, 10 ** 30), Fraction(-1, 10 ** 30), Fraction(10 ** 9 - 1, 10 ** 9), Fraction(1 - 10 ** 9, 10 ** 9)):
            self.assertEqual(kind(hall_with(k + 1 / k, near=Fraction(1, 3))), ("off", of(k)))

    def test_off_without_a_ratio(self):
        for hall in OFF_WITHOUT:
            self.assertEqual(kind(hall), ("off", None))

    def test_as_told(self):
        words = set()
        for hall in all_kinds() + some_halls(5, 300, 2) + some_halls(6, 90):
            told = kind(hall)
            self.assertIsInstance(told, tuple)
            self.assertEqual(len(told), 2)
            self.assertEqual(told[0], slow_word(hall))
            words.add(told[0] if told[0] != "same" else told)
            a, b, c, d = slow_table(hall)
            if told[0] == "same":
                self.assertEqual(told[1], slow_order((a, b, c, d)))
            if told[0] == "turns":
                self.assertEqual(told[1], (of(c), of(d - a), of(-b)))
            if told[0] == "shear":
                end, ray = slow_round(hall, told[1]), told[1]
                self.assertIn(end, (ray, (of(-fraction(ray[0])), of(-fraction(ray[1])))))
                self.assertNotEqual(ray, STILL)
            if told[0] == "off":
                t = a + d
                if told[1] is not None:
                    k = fraction(told[1])
                    self.assertTrue(is_ratio(told[1]) and -1 < k < 1 and k + 1 / k == t)
                else:
                    self.assertNotEqual(root_of(t * t - 4) ** 2, t * t - 4)
        self.assertLessEqual({("same", 1), ("same", 4), "turns", "shear", "off"}, words)

    def test_of_300_figures(self):
        seeded = Seeded(7)
        wide = 10 ** 300 - 1
        hall = (seeded.ratio(wide), seeded.bench(8, wide), seeded.ratio(wide))
        self.assertEqual(kind(hall)[0], slow_word(hall))
        k = fraction(seeded.ratio(wide))
        k = k if abs(k) < 1 else 1 / k
        self.assertEqual(kind(hall_with(k + 1 / k)), ("off", of(k)))
        t = 2 - Fraction(1, wide)
        self.assertEqual(kind(hall_with(t))[0], "turns")
        self.assertEqual(kind(hall_with(-t))[0], "turns")
        self.assertEqual(kind(hall_with(2 + Fraction(1, wide)))[0], "off")
        self.assertEqual(kind(hall_with(-2 - Fraction(1, wide)))[0], "off")


def root_of(number):
    # The nearest below by whole numbers; squares back to the number only where it has a root.
    return Fraction(isqrt(number.numerator), isqrt(number.denominator))


class Form(unittest.TestCase):
    def test_as_told(self):
        for hall in all_kinds() + some_halls(8, 40) + [HALL]:
            a, b, c, d = slow_table(hall)
            told = form(hall)
            self.assertIsInstance(told, tuple)
            self.assertTrue(all(is_ratio(one) for one in told))
            self.assertEqual(told, (of(c), of(d - a), of(-b)))
            self.assertEqual(form((hall[0], tuple(hall[1]), hall[2])), told)

    def test_its_value_is_changed_by_no_round(self):
        for hall in all_kinds() + some_halls(9, 40):
            first, second, third = [fraction(one) for one in form(hall)]
            for ray in some_rays(10):
                values = set()
                for passed in range(4):
                    y, u = fraction(ray[0]), fraction(ray[1])
                    values.add(first * y * y + second * y * u + third * u * u)
                    ray = slow_round(hall, ray)
                self.assertEqual(len(values), 1)


class Reach(unittest.TestCase):
    def halls(self):
        return TURNS + [hall for hall in some_halls(11, 200, 2) if slow_word(hall) == "turns"][:12]

    def test_by_hand(self):
        # Behind the gap of 1 with a mirror of 3/4 a round is (1/4, 5/4, -3/4, 1/4): the form is 3 y y + 5 u u by -4.
        hall = hall_with(Fraction(1, 2))
        self.assertEqual(form(hall), ((-3, 4), NOUGHT, (-5, 4)))
        self.assertEqual(reach(hall, ((1, 1), NOUGHT), (1, 1), NOUGHT), (1, 1))
        self.assertEqual(reach(hall, ((1, 1), NOUGHT), NOUGHT, (1, 1)), (3, 5))
        self.assertEqual(reach(hall, (NOUGHT, (1, 1)), (1, 1), NOUGHT), (5, 3))

    def test_of_nought(self):
        for hall in self.halls():
            self.assertEqual(reach(hall, STILL, (1, 1), (2, 1)), NOUGHT)
            self.assertEqual(reach(hall, ((1, 1), (2, 1)), NOUGHT, NOUGHT), NOUGHT)

    def test_as_told(self):
        for hall in self.halls():
            for ray in some_rays(12):
                for p, q in some_rays(13, 2):
                    told = reach(hall, ray, p, q)
                    self.assertTrue(is_ratio(told))
                    self.assertEqual(fraction(told), slow_reach(hall, ray, p, q))
                    self.assertEqual(reach((hall[0], tuple(hall[1]), hall[2]), ray, p, q), told)
                    for number in slow_numbers(hall, ray, p, q, 25):
                        self.assertLessEqual(number * number, fraction(told))

    def test_some_numbers_come_near_to_it(self):
        for hall in self.halls()[:6]:
            p, q, ray = (2, 3), (-1, 2), ((1, 1), (1, 3))
            x, later = [float(number) for number in slow_numbers(hall, ray, p, q, 2)]
            t = float(slow_table(hall)[0] + slow_table(hall)[3])
            greatest = 0
            for passed in range(3000):
                greatest = max(greatest, x * x)
                x, later = later, t * later - x
            self.assertGreater(greatest, 0.999 * float(fraction(reach(hall, ray, p, q))))

    def test_of_300_figures(self):
        seeded = Seeded(14)
        wide = 10 ** 300 - 1
        bench = [("gap", (1, wide)), ("glass", (wide, wide - 1)), ("stop", (1, 1)), ("gap", (1, 10))]
        hall = ((1, 3), bench, (1, 2))
        self.assertEqual(slow_word(hall), "turns")
        ray, p, q = seeded.ray(wide), seeded.ratio(wide), seeded.ratio(wide)
        self.assertEqual(fraction(reach(hall, ray, p, q)), slow_reach(hall, ray, p, q))


class Numbers(unittest.TestCase):
    def test_they_go_on_by_t(self):
        for hall in all_kinds()[:20] + some_halls(15, 20):
            table = round_of(hall)
            t = fraction(table[0]) + fraction(table[3])
            for ray in some_rays(16, 2):
                for p, q in some_rays(17, 2):
                    numbers = []
                    for passed in range(5):
                        numbers.append(fraction(p) * fraction(ray[0]) + fraction(q) * fraction(ray[1]))
                        ray = led(table, ray)
                    for x, later, third in zip(numbers, numbers[1:], numbers[2:]):
                        self.assertEqual(third, t * later - x)


class Untouched(unittest.TestCase):
    def test_nothing_handed_in_is_changed(self):
        turning = with_stops(TURNS[0], 1)
        for deed in (is_hall, round_of, kind, form, lambda hall: reach(hall, ((1, 1), (1, 2)), (1, 1), (1, 3))):
            for kept in (turning, with_stops(SAME[3], 2), with_stops(SHEAR[2][1], 2), with_stops(OFF[(1, 2)], 2)):
                if deed in (is_hall, round_of, kind, form) or kept is turning:
                    hall = copy.deepcopy(kept)
                    first = deed(hall)
                    self.assertEqual(deed(hall), first)
                    self.assertEqual(hall, kept)


if __name__ == "__main__":
    unittest.main()
