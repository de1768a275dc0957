"""[1.1], and of [0.2] and [0.3] what they say of ratios."""

import unittest
from fractions import Fraction

from roundglass import errors
from roundglass.ratios import is_ratio, is_whole, less, minus, over, plus, ratio, root, times
from things import GREAT, NOT_RATIO, NOT_WHOLE, WIDE, Seeded, fraction, nests, of, rows

OTHER_REFUSALS = (
    errors.NoWhole, errors.TooMany, errors.NoText, errors.NoRow, errors.NoPart, errors.NoNumber, errors.NoPast,
)


def small_ratios():
    return sorted({of(Fraction(top, bottom)) for top in range(-6, 7) for bottom in range(1, 6)})


class Refusals(unittest.TestCase):
    def refused(self, deed, *things):
        with self.assertRaises(errors.NoRatio) as caught:
            deed(*things)
        self.assertIsInstance(caught.exception, errors.GlassError)
        self.assertIsInstance(caught.exception, ValueError)
        self.assertNotIsInstance(caught.exception, OTHER_REFUSALS)

    def test_a_bottom_of_nought(self):
        for top in (0, 1, -1, WIDE, 10 ** 5000):
            self.refused(ratio, top, 0)

    def test_what_is_no_whole_number(self):
        for thing in NOT_WHOLE:
            self.refused(ratio, thing)
            self.refused(ratio, thing, 1)
            self.refused(ratio, 1, thing)
            self.refused(ratio, 0, thing)
            self.refused(ratio, thing, 0)
            self.refused(ratio, thing, thing)

    def test_things_of_any_kind_and_depth(self):
        for thing in [{1, 2}, b"1", object(), int, Fraction(1, 2), range(3)] + nests(30) + rows(3900):
            self.refused(ratio, thing)
            self.refused(ratio, 1, thing)

    def test_over_by_nought(self):
        for one in ((0, 1), (1, 1), (-2, 3), (GREAT, WIDE)):
            self.refused(over, one, (0, 1))


class Kinds(unittest.TestCase):
    def test_whole_numbers(self):
        for number in (0, 1, -1, 7, GREAT, -WIDE, 10 ** 5000):
            self.assertIs(is_whole(number), True)
        for thing in NOT_WHOLE:
            self.assertIs(is_whole(thing), False, thing)

    def test_ratios(self):
        for one in ((0, 1), (1, 1), (-1, 1), (2, 3), (-2, 3), (7, 1), (1, WIDE), (GREAT, 2), (10 ** 5000, 3)):
            self.assertIs(is_ratio(one), True)
        for thing in NOT_RATIO:
            self.assertIs(is_ratio(thing), False, thing)

    def test_every_small_pair(self):
        for top in range(-12, 13):
            for bottom in range(-12, 13):
                lowest = bottom > 0 and of(Fraction(top, bottom)) == (top, bottom)
                self.assertIs(is_ratio((top, bottom)), lowest)
                self.assertIs(is_ratio([top, bottom]), False)

    def test_great_numbers_not_in_lowest_terms(self):
        self.assertIs(is_ratio((GREAT, WIDE)), True)
        self.assertIs(is_ratio((GREAT * 3, WIDE)), False)
        self.assertIs(is_ratio((-GREAT * 3, WIDE)), False)

    def test_deep_and_wide_things(self):
        for thing in nests(30) + rows(3900):
            self.assertIs(is_whole(thing), False)
            self.assertIs(is_ratio(thing), False)


class Made(unittest.TestCase):
    def test_every_small_pair(self):
        for top in range(-12, 13):
            for bottom in range(-12, 13):
                if bottom != 0:
                    self.assertEqual(ratio(top, bottom), of(Fraction(top, bottom)))

    def test_a_tuple_of_ints(self):
        made = ratio(6, -4)
        self.assertEqual(made, (-3, 2))
        self.assertIsInstance(made, tuple)
        self.assertTrue(is_ratio(made))

    def test_one_number_alone(self):
        for top in (0, 1, -5, GREAT):
            self.assertEqual(ratio(top), (top, 1))

    def test_by_names(self):
        self.assertEqual(ratio(top=4, bottom=-6), (-2, 3))
        self.assertEqual(ratio(bottom=10, top=5), (1, 2))
        self.assertEqual(ratio(top=4), (4, 1))
        self.assertEqual(ratio(4, bottom=6), (2, 3))

    def test_nought(self):
        for bottom in (1, -1, 5, -5, WIDE, -WIDE):
            self.assertEqual(ratio(0, bottom), (0, 1))

    def test_great_numbers(self):
        self.assertEqual(ratio(GREAT * 6, -WIDE * 6), (-GREAT, WIDE))
        self.assertEqual(ratio(10 ** 5000, 10 ** 4999), (10, 1))


class Reckoned(unittest.TestCase):
    def held(self, one, other):
        x, y = fraction(one), fraction(other)
        self.assertEqual(plus(one, other), of(x + y))
        self.assertEqual(minus(one, other), of(x - y))
        self.assertEqual(times(one, other), of(x * y))
        if y != 0:
            self.assertEqual(over(one, other), of(x / y))
        self.assertIs(less(one, other), x < y)
        for told in (plus(one, other), minus(one, other), times(one, other)):
            self.assertTrue(is_ratio(told))

    def test_small_ratios(self):
        for one in small_ratios():
            for other in small_ratios():
                self.held(one, other)

    def test_great_ratios(self):
        seeded = Seeded(11)
        for number in range(60):
            self.held(seeded.ratio(WIDE), seeded.ratio(WIDE))
        self.held((GREAT, WIDE), (-GREAT, WIDE))
        self.held((GREAT, WIDE), (GREAT + 2, WIDE + 1))

    def test_less_is_strict_and_exact(self):
        self.assertIs(less((1, 2), (1, 2)), False)
        self.assertIs(less((-1, 2), (-1, 3)), True)
        self.assertIs(less((GREAT, GREAT + 1), (GREAT + 1, GREAT + 2)), True)
        self.assertIs(less((GREAT + 1, GREAT + 2), (GREAT, GREAT + 1)), False)

    def test_what_is_told_is_taken_again(self):
        one = (GREAT, WIDE)
        for number in range(4):
            one = plus(times(one, one), (1, 3))
        self.assertEqual(over(times(one, (7, 2)), (7, 2)), one)
        self.assertEqual(minus(one, one), (0, 1))
        self.assertEqual(root(times(one, one)), one)
        self.assertTrue(is_ratio(one))


class Roots(unittest.TestCase):
    def test_squares(self):
        for one in small_ratios():
            side = of(abs(fraction(one)))
            self.assertEqual(root(times(one, one)), side)

    def test_of_0_and_1(self):
        self.assertEqual(root((0, 1)), (0, 1))
        self.assertEqual(root((1, 1)), (1, 1))

    def test_every_whole_number_to_2000(self):
        squares = {number * number: number for number in range(46)}
        for number in range(2001):
            told = (squares[number], 1) if number in squares else None
            self.assertEqual(root((number, 1)), told)
            if number > 0:
                told = (1, squares[number]) if number in squares else None
                self.assertEqual(root((1, number)), told)

    def test_none(self):
        for one in ((2, 1), (1, 2), (4, 3), (3, 4), (8, 9), (9, 8), (2, 9), (9, 2)):
            self.assertIsNone(root(one))

    def test_below_0(self):
        for one in ((-1, 1), (-4, 1), (-4, 9), (-2, 3), (-WIDE, 1)):
            self.assertIsNone(root(one))

    def test_great_numbers(self):
        for side in (GREAT, WIDE, 10 ** 150, 10 ** 149 + 1):
            self.assertEqual(root((side * side, 1)), (side, 1))
            self.assertEqual(root((1, side * side)), (1, side))
            self.assertIsNone(root((side * side + 1, 1)))
            self.assertIsNone(root((side * side - 1, 1)))
            self.assertIsNone(root((1, side * side + 1)))
            self.assertIsNone(root((1, side * side - 1)))
        self.assertEqual(root((GREAT * GREAT, WIDE * WIDE)), (GREAT, WIDE))

    def test_powers_of_2_and_their_neighbours(self):
        for half in range(1, 200):
            side = 2 ** half
            self.assertEqual(root((side * side, 1)), (side, 1))
            self.assertEqual(root(((side - 1) * (side - 1), 1)), (side - 1, 1))
            self.assertEqual(root(((side + 1) * (side + 1), 1)), (side + 1, 1))
            self.assertIsNone(root((2 * side * side, 1)))


if __name__ == "__main__":
    unittest.main()
