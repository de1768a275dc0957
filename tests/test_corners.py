"""[5.2], and of [0.2] what it says of corners."""

import copy
import itertools
import unittest

from roundglass.corners import corners
from roundglass.lines import lets, lines_of
from roundglass.tables import cross, is_ray
from shapes import ALONG, CUT, LEVEL, SQUARE, TOUCHED, all_along, around, line, many, slow_corners, some_lines
from things import Seeded, fraction, of

SQUARE_CORNERS = [((-1, 1), (-1, 1)), ((1, 1), (-1, 1)), ((1, 1), (1, 1)), ((-1, 1), (1, 1))]


class Unbounded(unittest.TestCase):
    def test_no_lines(self):
        self.assertIsNone(corners([]))
        self.assertIsNone(corners(()))

    def test_one_line(self):
        for one in (line(1, 2, 3), line(1, 0, 1), line(0, 1, 1), line(-1, 0, 1), line(0, -3, 1)):
            self.assertIsNone(corners([one]))
            self.assertIsNone(corners([one] * 3))

    def test_lines_all_along_one_another(self):
        self.assertIsNone(corners(ALONG))
        self.assertIsNone(corners(LEVEL))
        self.assertIsNone(corners(tuple(ALONG) * 4))
        self.assertIsNone(corners([line(1, 0, 1), line(-5, 0, 2)]))


class Corners(unittest.TestCase):
    def test_two_lines(self):
        self.assertEqual(corners(SQUARE), SQUARE_CORNERS)
        self.assertEqual(corners(SQUARE[::-1]), SQUARE_CORNERS)
        self.assertEqual(corners(tuple(SQUARE)), SQUARE_CORNERS)
        told = corners([line(1, 1, 2), line(1, -1, 2)])
        self.assertEqual(told, [((-2, 1), (0, 1)), ((0, 1), (-2, 1)), ((2, 1), (0, 1)), ((0, 1), (2, 1))])

    def test_a_line_twice(self):
        for lines in (
            SQUARE + SQUARE, SQUARE + SQUARE[:1], SQUARE + [line(-1, 0, 1)], SQUARE + [line(7, 0, 7)],
            [line(0, -2, 2)] + SQUARE, SQUARE * 6,
        ):
            self.assertEqual(corners(lines), SQUARE_CORNERS)

    def test_a_line_that_stops_nothing(self):
        for wide in (line(1, 0, 2), line(1, 1, 3), line(0, -1, 2), line(5, 4, 10)):
            for lines in ([wide] + SQUARE, SQUARE + [wide], [SQUARE[0], wide, SQUARE[1]]):
                self.assertEqual(corners(lines), SQUARE_CORNERS)

    def test_a_line_that_only_touches(self):
        self.assertEqual(corners(TOUCHED), SQUARE_CORNERS)
        for touching in (line(1, 1, 2), line(1, -1, 2), line(-1, -1, 2), line(1, 2, 3), line(-3, 1, 4)):
            for lines in ([touching] + SQUARE, SQUARE + [touching], [SQUARE[1], touching, SQUARE[0], touching]):
                self.assertEqual(corners(lines), SQUARE_CORNERS)
        # Several that touch one corner, and the outermost side itself among those that meet there.
        self.assertEqual(corners([line(1, 1, 2), line(2, 1, 3), line(1, 2, 3)] + SQUARE), SQUARE_CORNERS)

    def test_a_line_that_only_touches_on_an_axis(self):
        diamond = [((-2, 1), (0, 1)), ((0, 1), (-2, 1)), ((2, 1), (0, 1)), ((0, 1), (2, 1))]
        for touching in (line(1, 0, 2), line(-5, 0, 10), line(0, 3, 6), line(0, -1, 2), line(6, 2, 12), line(1, -7, 14)):
            for one in (line(1, 1, 2), line(-3, -3, 6)):
                for other in (line(1, -1, 2), line(-5, 5, 10)):
                    for lines in itertools.permutations([touching, one, other]):
                        self.assertEqual(corners(lines), diamond)

    def test_many_that_meet_on_an_axis(self):
        seeded = Seeded(3)
        for number in range(150):
            lines = []
            for size in [abs(seeded.whole(6)) + 1 for each in range(2 + number % 5)]:
                lines.append(line(size, seeded.whole(9), size * 2) if number % 2 else line(seeded.whole(9), size, size * 2))
            self.assertEqual(corners(lines), slow_corners(lines))

    def test_a_line_that_cuts(self):
        half = (1, 2)
        told = [
            ((-1, 1), (-1, 2)), ((-1, 2), (-1, 1)), ((1, 1), (-1, 1)), ((1, 1), half), (half, (1, 1)), ((-1, 1), (1, 1)),
        ]
        self.assertEqual(corners(CUT), told)

    def test_the_least_of_one_height_by_slopes(self):
        told = corners([line(1, 0, 3), line(1, 1, 1)])
        self.assertEqual(told, [((-3, 1), (2, 1)), ((3, 1), (-4, 1)), ((3, 1), (-2, 1)), ((-3, 1), (4, 1))])

    def test_twelve_lines(self):
        lines = around(12)
        told = corners(lines)
        self.assertEqual(len(told), 24)
        self.assertEqual(told, slow_corners(lines))

    def test_as_told(self):
        sizes = set()
        for lines in many():
            told = corners(lines)
            self.assertEqual(told, slow_corners(lines))
            self.assertEqual(corners(tuple(lines)), told)
            self.assertIs(told is None, all_along(lines))
            if told is not None:
                self.assertIsInstance(told, list)
                sizes.add(len(told))
                self.assertEqual(told[0], min(told, key=lambda ray: (fraction(ray[0]), fraction(ray[1]))))
                for one, other in zip(told, told[1:] + told[:1]):
                    self.assertTrue(is_ray(one) and lets(lines, one))
                    self.assertGreater(cross(one, other)[0], 0)
        self.assertGreater(len(sizes), 4)

    def test_of_lines_of_benches(self):
        seeded = Seeded(1)
        for bound in (3, 10 ** 60 - 1):
            for number in range(12):
                lines = lines_of(seeded.bench(12, bound))
                self.assertEqual(corners(lines), slow_corners(lines))

    def test_great_numbers(self):
        for lines in (around(12, 300), some_lines(2, 12, 10 ** 300)):
            self.assertEqual(corners(lines), slow_corners(lines))

    def test_a_little_beyond_where_two_others_meet(self):
        little = fraction((1, 10 ** 80))
        self.assertEqual(corners(SQUARE + [line(1, 1, 2 + little)]), SQUARE_CORNERS)
        self.assertEqual(len(corners(SQUARE + [line(1, 1, 2 - little)])), 6)


class Untouched(unittest.TestCase):
    def test_nothing_handed_in_is_changed_and_lists_are_the_askers_own(self):
        lines = copy.deepcopy(CUT)
        first = corners(lines)
        kept = list(first)
        first.pop()
        self.assertEqual(corners(lines), kept)
        self.assertEqual(lines, CUT)


if __name__ == "__main__":
    unittest.main()
