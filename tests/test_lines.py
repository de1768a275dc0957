"""[5.1], and of [0.2] and [0.3] what they say of lines."""

import copy
import unittest

from roundglass.lines import is_line, lets, lines_of
from roundglass.ways import stopped_by
from things import GREAT, NOT_RATIO, WIDE, Seeded, fraction, nests, of, rows, slow_led

LINE = ((1, 1), (2, 1), (3, 1))
BENCH = [("stop", (4, 1)), ("gap", (2, 1)), ("glass", (1, 3)), ("stop", (5, 1)), ("gap", (6, 1)), ("stop", (1, 2))]
LITTLE = fraction((1, 10 ** 59))


class Kinds(unittest.TestCase):
    def test_lines(self):
        for line in (
            LINE, ((0, 1), (2, 1), (3, 1)), ((1, 1), (0, 1), (3, 1)), ((-1, 2), (-2, 3), (1, 9)),
            ((GREAT, WIDE), (-WIDE, GREAT), (1, WIDE)),
        ):
            self.assertIs(is_line(line), True)
            self.assertIs(is_line(list(line)), False)
            self.assertIs(is_line(line[:2]), False)
            self.assertIs(is_line(line + ((1, 1),)), False)

    def test_p_and_q_both_nought(self):
        self.assertIs(is_line(((0, 1), (0, 1), (3, 1))), False)

    def test_r_nought_or_below(self):
        for r in ((0, 1), (-1, 1), (-1, WIDE), (-WIDE, 1)):
            self.assertIs(is_line(((1, 1), (2, 1), r)), False)
        self.assertIs(is_line(((1, 1), (2, 1), (1, WIDE))), True)

    def test_parts_are_ratios(self):
        for thing in NOT_RATIO:
            for place in range(3):
                parts = list(LINE)
                parts[place] = thing
                self.assertIs(is_line(tuple(parts)), False, thing)

    def test_anything(self):
        for thing in nests(5) + rows(70) + list(NOT_RATIO) + [(), ((1, 1),) * 2, ((1, 1),) * 4, {}, "", "abc"]:
            self.assertIs(is_line(thing), False, thing)
        self.assertIs(is_line(((1, 1),) * 3), True)


class LinesOf(unittest.TestCase):
    def test_by_hand(self):
        self.assertEqual(
            lines_of(BENCH),
            [((1, 1), (0, 1), (4, 1)), ((1, 1), (2, 1), (5, 1)), ((-1, 1), (4, 1), (1, 2))],
        )
        self.assertEqual(lines_of(tuple(BENCH)), lines_of(BENCH))

    def test_without_stops(self):
        for bench in ([], (), [("gap", (1, 1))], [("glass", (1, 1)), ("gap", (2, 1))]):
            self.assertEqual(lines_of(bench), [])
            self.assertIsInstance(lines_of(bench), list)

    def test_stops_side_by_side(self):
        bench = [("gap", (1, 2)), ("stop", (3, 1)), ("stop", (2, 1)), ("stop", (3, 1))]
        self.assertEqual(lines_of(bench), [((1, 1), (1, 2), (3, 1)), ((1, 1), (1, 2), (2, 1)), ((1, 1), (1, 2), (3, 1))])

    def test_of_twelve_parts(self):
        self.assertEqual(lines_of([("stop", (1, 1))] * 12), [((1, 1), (0, 1), (1, 1))] * 12)
        bench = [("gap", (1, 1)), ("glass", (1, 1)), ("stop", (2, 1))] * 4
        told = [((1, 1), (1, 1)), ((0, 1), (1, 1)), ((-1, 1), (0, 1)), ((-1, 1), (-1, 1))]
        self.assertEqual(lines_of(bench), [(p, q, (2, 1)) for p, q in told])

    def test_the_height_at_each_stop(self):
        seeded = Seeded(1)
        for bound in (9, 10 ** 60 - 1):
            for count in range(13):
                bench = seeded.bench(count, bound)
                lines = lines_of(bench)
                self.assertTrue(all(is_line(line) for line in lines))
                ray = seeded.ray(bound)
                y, u = fraction(ray[0]), fraction(ray[1])
                told, along = [], ray
                for part in bench:
                    if part[0] == "stop":
                        told.append((fraction(along[0]), part[1]))
                    along = slow_led(part, along)
                self.assertEqual([(fraction(p) * y + fraction(q) * u, r) for p, q, r in lines], told)


class Lets(unittest.TestCase):
    def test_of_no_lines(self):
        for lines in ([], ()):
            self.assertIs(lets(lines, ((WIDE, 1), (-WIDE, 1))), True)

    def test_at_the_very_end_and_a_little_beyond(self):
        for p, q, r in (LINE, ((0, 1), (-2, 3), (1, 7)), ((-3, 5), (0, 1), (2, 1)), ((1, 2), (-7, 3), (4, 9))):
            for side in (1, -1):
                for more, told in ((0, True), (LITTLE, False), (-LITTLE, True)):
                    wanted = side * (fraction(r) + more)
                    share = fraction(p) ** 2 + fraction(q) ** 2
                    ray = (of(fraction(p) * wanted / share), of(fraction(q) * wanted / share))
                    self.assertIs(lets([(p, q, r)], ray), told)
                    self.assertIs(lets(((p, q, r),), ray), told)

    def test_all_of_several(self):
        wide, narrow = ((1, 1), (0, 1), (4, 1)), ((1, 1), (1, 1), (2, 1))
        for ray, told in (
            (((2, 1), (0, 1)), True), (((3, 1), (0, 1)), False), (((3, 1), (-1, 1)), True), (((5, 1), (-4, 1)), False),
            (((-4, 1), (2, 1)), True), (((-4, 1), (1, 1)), False),
        ):
            self.assertIs(lets([wide, narrow], ray), told)
            self.assertIs(lets((narrow, wide), ray), told)

    def test_as_stops_do(self):
        seeded = Seeded(2)
        seen = set()
        for number in range(200):
            bench = seeded.bench(number % 13, 5)
            ray = seeded.ray(5)
            told = lets(lines_of(bench), ray)
            self.assertIs(told, stopped_by(bench, ray) is None)
            seen.add(told)
        self.assertEqual(seen, {True, False})

    def test_great_numbers(self):
        line = ((GREAT, WIDE), (-WIDE, GREAT), (1, WIDE))
        end = of(fraction((1, WIDE)) / fraction((GREAT, WIDE)))
        self.assertIs(lets([line], (end, (0, 1))), True)
        self.assertIs(lets([line], (of(fraction(end) * (1 + LITTLE)), (0, 1))), False)


class Untouched(unittest.TestCase):
    def test_nothing_handed_in_is_changed_and_lists_are_the_askers_own(self):
        bench = copy.deepcopy(BENCH)
        first = lines_of(bench)
        kept = list(first)
        first.append(None)
        self.assertEqual(lines_of(bench), kept)
        self.assertEqual(bench, BENCH)
        again = list(kept)
        lets(again, ((1, 1), (1, 1)))
        self.assertEqual(again, kept)


if __name__ == "__main__":
    unittest.main()
