"""[6.1], [6.2], [6.3], and of [0.2] what it says of cones and fields."""

import copy
import unittest

from roundglass.benches import table_of
from roundglass.cones import area, cone, field, narrowest, pupil
from roundglass.corners import corners
from roundglass.images import image
from roundglass.lines import lines_of
from roundglass.ratios import is_ratio
from roundglass.ways import stopped_by
from shapes import CUT, SQUARE, all_along, around, slow_corners
from things import Seeded, fraction, of

NOUGHT = (0, 1)
LITTLE = fraction((1, 10 ** 40))
# The glass stands 3 behind the begin, stops of 2 and 1 stand at 1 and at 4.
BENCH = [("gap", (1, 1)), ("stop", (2, 1)), ("gap", (2, 1)), ("glass", (1, 2)), ("gap", (1, 1)), ("stop", (1, 1))]
PLANES = ((0, 1), (1, 1), (-1, 1), (5, 2), (-7, 3))


def entering(x, h, slope):
    return (of(fraction(h) + fraction(x) * fraction(slope)), of(fraction(slope)))


def comes_by(bench, x, h, slope):
    return stopped_by(bench, entering(x, h, slope)) is None


def some_benches(seed, count, bound=4):
    seeded = Seeded(seed)
    return [seeded.bench(number % 13, bound) for number in range(count)]


def seen_lines(bench, x):
    return [(p, of(fraction(p) * fraction(x) + fraction(q)), r) for p, q, r in lines_of(bench)]


def slow_cone(bench, x, h):
    low = high = None
    for p, q, r in seen_lines(bench, x):
        number, by_slope, bound = fraction(p) * fraction(h), fraction(q), fraction(r)
        if by_slope == 0 and abs(number) > bound:
            return None
        if by_slope != 0:
            ends = sorted([(bound - number) / by_slope, (-bound - number) / by_slope])
            low = ends[0] if low is None else max(low, ends[0])
            high = ends[1] if high is None else min(high, ends[1])
    if low is None:
        return (None, None)
    return None if low > high else (of(low), of(high))


class Cone(unittest.TestCase):
    def test_by_hand(self):
        # From 0 at height 0: by the first stop from -2 to 2, and by the second too, as 3 u - 3/2 u + u is u by 5/2.
        self.assertEqual(cone(BENCH[:2], NOUGHT, NOUGHT), ((-2, 1), (2, 1)))
        self.assertEqual(cone(BENCH, NOUGHT, NOUGHT), ((-2, 5), (2, 5)))
        self.assertEqual(cone(tuple(BENCH), NOUGHT, NOUGHT), ((-2, 5), (2, 5)))
        self.assertEqual(cone(BENCH[:2], (3, 1), (1, 1)), ((-3, 4), (1, 4)))
        self.assertEqual(cone(BENCH[:2], (3, 1), (-1, 1)), ((-1, 4), (3, 4)))
        self.assertEqual(cone(BENCH[:2], (-3, 1), (1, 1)), ((-1, 2), (3, 2)))

    def test_without_stops(self):
        for bench in ([], (), [("gap", (1, 1))], [("glass", (1, 1)), ("gap", (2, 1))]):
            for x in PLANES:
                self.assertEqual(cone(bench, x, (9, 1)), (None, None))

    def test_a_stop_that_does_not_see_the_slope(self):
        # The stop stands at -1, or where the glass leads -2 to.
        for bench, x, bound in (
            ([("gap", (1, 1)), ("stop", (2, 1))], (-1, 1), fraction((2, 1))),
            ([("stop", (1, 3))], NOUGHT, fraction((1, 3))),
            ([("glass", (1, 1)), ("gap", (2, 1)), ("stop", (1, 1))], (2, 1), fraction((1, 1))),
        ):
            for h in (0, bound, -bound, bound / 2):
                self.assertEqual(cone(bench, x, of(h + fraction(NOUGHT))), (None, None))
            for h in (bound + LITTLE, -bound - LITTLE, bound * 9):
                self.assertIsNone(cone(bench, x, of(h)))
            more = bench + [("gap", (1, 1)), ("stop", (9, 1))]
            self.assertIsNone(cone(more, x, of(bound + LITTLE)))
            self.assertIsNone(cone([("stop", (10 ** 9, 1))] + more, x, of(-bound - LITTLE)))
            self.assertNotIn(cone(more, x, NOUGHT), (None, (None, None)))

    def test_of_one_slope_alone(self):
        bench = [("stop", (1, 1)), ("gap", (1, 1)), ("stop", (1, 1))]
        # From 1 ahead at height 3 only slope -2 comes by both.
        self.assertEqual(cone(bench, (1, 1), (3, 1)), ((-2, 1), (-2, 1)))
        self.assertEqual(cone(bench, (1, 1), (-3, 1)), ((2, 1), (2, 1)))
        self.assertIsNone(cone(bench, (1, 1), of(3 + LITTLE)))
        self.assertIsNone(cone(bench, (1, 1), of(-3 - LITTLE)))

    def test_as_stops_do(self):
        seen = set()
        for bench in some_benches(1, 80):
            for x in PLANES:
                for h in ((0, 1), (1, 1), (-3, 2), (7, 1)):
                    told = cone(bench, x, h)
                    self.assertEqual(told, slow_cone(bench, x, h))
                    self.assertEqual(cone(tuple(bench), x, h), told)
                    if told is None:
                        seen.add("none")
                        self.assertFalse(any(comes_by(bench, x, h, (slope, 3)) for slope in range(-9, 10)))
                    elif told == (None, None):
                        seen.add("all")
                        self.assertTrue(all(comes_by(bench, x, h, (slope, 1)) for slope in (-10 ** 9, 0, 10 ** 9)))
                    else:
                        seen.add("some")
                        low, high = [fraction(end) for end in told]
                        self.assertTrue(is_ratio(told[0]) and is_ratio(told[1]) and low <= high)
                        for slope in (low, high, (low + high) / 2):
                            self.assertTrue(comes_by(bench, x, h, of(slope)))
                        for slope in (low - LITTLE, high + LITTLE):
                            self.assertFalse(comes_by(bench, x, h, of(slope)))
        self.assertEqual(seen, {"none", "all", "some"})

    def test_of_12_figures(self):
        seeded = Seeded(2)
        wide = 10 ** 12 - 1
        for number in range(10):
            bench, x, h = seeded.bench(12, wide), seeded.ratio(wide), seeded.ratio(wide)
            self.assertEqual(cone(bench, x, h), slow_cone(bench, x, h))


class Narrowest(unittest.TestCase):
    def test_by_hand(self):
        self.assertEqual(narrowest(BENCH, NOUGHT), 5)
        self.assertEqual(narrowest(tuple(BENCH), NOUGHT), 5)
        self.assertEqual(narrowest(BENCH[:2], NOUGHT), 1)
        # From -1 the first stop is at the plane itself and sees no slope.
        self.assertEqual(narrowest(BENCH, (-1, 1)), 5)
        self.assertIsNone(narrowest(BENCH[:2], (-1, 1)))

    def test_none(self):
        for bench in ([], (), [("gap", (1, 1)), ("glass", (1, 1))]):
            self.assertIsNone(narrowest(bench, NOUGHT))
        self.assertIsNone(narrowest([("stop", (1, 1)), ("stop", (2, 1))], NOUGHT))

    def test_the_first_of_several(self):
        bench = [("gap", (1, 1)), ("stop", (1, 1)), ("gap", (1, 1)), ("stop", (2, 1)), ("stop", (2, 1))]
        self.assertEqual(narrowest(bench, NOUGHT), 1)
        self.assertEqual(narrowest(bench, (1, 1)), 1)
        self.assertEqual(narrowest(bench[2:], (2, 1)), 1)
        self.assertEqual(narrowest(bench, (-1, 2)), 3)
        self.assertEqual(narrowest([("stop", (3, 1)), ("stop", (1, 1)), ("stop", (1, 1))], (1, 1)), 1)
        # One that looks from the other side is as narrow.
        self.assertEqual(narrowest([("stop", (1, 1)), ("gap", (2, 1)), ("stop", (1, 1))], (-1, 1)), 0)

    def test_bounds_the_cone_of_height_0(self):
        seen = set()
        for bench in some_benches(3, 80):
            for x in PLANES:
                told = narrowest(bench, x)
                seen.add(told)
                whole = cone(bench, x, NOUGHT)
                alone = [cone(lone(bench, k), x, NOUGHT) for k, part in enumerate(bench) if part[0] == "stop"]
                numbers = [k for k, part in enumerate(bench) if part[0] == "stop"]
                if told is None:
                    self.assertEqual(whole, (None, None))
                else:
                    self.assertEqual(told, numbers[alone.index(whole)])
        self.assertGreater(len(seen), 6)


def lone(bench, k):
    return [part for number, part in enumerate(bench) if part[0] != "stop" or number == k]


class Pupil(unittest.TestCase):
    def test_of_the_first_part(self):
        self.assertEqual(pupil([("stop", (3, 2))], 0), (NOUGHT, (3, 2)))
        self.assertEqual(pupil((("stop", (3, 2)), ("gap", (1, 1))), 0), (NOUGHT, (3, 2)))

    def test_behind_gaps_and_glasses(self):
        self.assertEqual(pupil([("gap", (2, 1)), ("stop", (3, 2))], 1), ((-2, 1), (3, 2)))
        # A glass of 1 shows what stands 1/2 behind it twice as large, 1 behind it.
        self.assertEqual(pupil([("glass", (1, 1)), ("gap", (1, 2)), ("stop", (3, 1))], 2), ((-1, 1), (6, 1)))
        self.assertEqual(pupil(BENCH, 5), ((-5, 1), (2, 1)))
        self.assertEqual(pupil(tuple(BENCH), 5), ((-5, 1), (2, 1)))

    def test_an_enlargement_below_0(self):
        self.assertEqual(pupil([("glass", (1, 1)), ("gap", (3, 1)), ("stop", (4, 1))], 2), ((3, 2), (2, 1)))

    def test_far_off(self):
        self.assertIsNone(pupil([("glass", (1, 1)), ("gap", (1, 1)), ("stop", (4, 1))], 2))
        self.assertIsNone(pupil([("gap", (7, 1)), ("glass", (1, 3)), ("gap", (3, 1)), ("stop", (4, 1))], 3))

    def test_the_image_is_where_the_stop_stands(self):
        seen = set()
        for bench in some_benches(4, 200, 3):
            bench = bench[:8]
            for k in [number for number, part in enumerate(bench) if part[0] == "stop"]:
                told = pupil(bench, k)
                seen.add(told is None)
                table = table_of(bench[:k])
                self.assertEqual(pupil(tuple(bench), k), told)
                if told is None:
                    self.assertEqual(image(table, None)[0], NOUGHT)
                else:
                    plane, half = told
                    z, m = image(table, plane)
                    self.assertEqual(z, NOUGHT)
                    self.assertEqual(fraction(half), fraction(bench[k][1]) / abs(fraction(m)))
                    self.assertTrue(is_ratio(plane) and is_ratio(half))
                    # A ray at the pupil's very rim is at the stop's.
                    ray = entering(plane, half, (5, 7))
                    self.assertIsNone(stopped_by(lone(bench[:k + 1], k), ray))
                    beyond = entering(plane, of(fraction(half) + LITTLE), (5, 7))
                    self.assertIsNotNone(stopped_by(lone(bench[:k + 1], k), beyond))
        self.assertEqual(seen, {True, False})

    def test_of_12_figures(self):
        seeded = Seeded(5)
        for number in range(10):
            bench = seeded.bench(7, 10 ** 12 - 1) + [("stop", (1, 3))]
            plane, half = pupil(bench, 7)
            z, m = image(table_of(bench[:7]), plane)
            self.assertEqual((z, fraction(half) * abs(fraction(m))), (NOUGHT, fraction((1, 3))))


def field_area(told):
    whole = 0
    for (h, low, high), (i, down, up) in zip(told, told[1:]):
        spans = fraction(high) - fraction(low) + fraction(up) - fraction(down)
        whole += (fraction(i) - fraction(h)) * spans / 2
    return of(whole)


class Field(unittest.TestCase):
    def test_by_hand(self):
        bench = [("stop", (1, 1)), ("gap", (1, 1)), ("stop", (1, 1))]
        ends = [((-1, 1), NOUGHT, (2, 1)), ((1, 1), (-2, 1), NOUGHT)]
        self.assertEqual(field(bench, NOUGHT), ends)
        self.assertEqual(field(tuple(bench), NOUGHT), ends)
        told = [((-3, 1), (2, 1), (2, 1)), ((-1, 1), NOUGHT, (1, 1)), ((1, 1), (-1, 1), NOUGHT), ((3, 1), (-2, 1), (-2, 1))]
        self.assertEqual(field(bench, (1, 1)), told)

    def test_none(self):
        stop = ("stop", (1, 1))
        for bench in ([], (), [("gap", (1, 1))], [stop], [stop, stop], [("gap", (1, 1)), stop, ("glass", (1, 1)), stop]):
            for x in PLANES:
                self.assertIsNone(field(bench, x))

    def test_heights_of_all_corners_with_their_cones(self):
        seen = set()
        for bench in some_benches(6, 60):
            for x in PLANES:
                told = field(bench, x)
                self.assertEqual(field(tuple(bench), x), told)
                rays = slow_corners(seen_lines(bench, x))
                seen.add(told is None)
                if rays is None:
                    self.assertIsNone(told)
                    continue
                self.assertIsInstance(told, list)
                heights = sorted({fraction(ray[0]) for ray in rays})
                self.assertEqual([fraction(row[0]) for row in told], heights)
                for row in told:
                    self.assertIsInstance(row, tuple)
                    self.assertEqual(row[1:], slow_cone(bench, x, row[0]))
                    self.assertEqual(row[1:], cone(bench, x, row[0]))
        self.assertEqual(seen, {True, False})

    def test_between_two_it_rises_and_falls_evenly(self):
        for bench in some_benches(7, 40):
            for x in PLANES[:3]:
                told = field(bench, x) or []
                for (h, low, high), (i, down, up) in zip(told, told[1:]):
                    middle = of((fraction(h) + fraction(i)) / 2)
                    ends = (of((fraction(low) + fraction(down)) / 2), of((fraction(high) + fraction(up)) / 2))
                    self.assertEqual(cone(bench, x, middle), ends)
                if told:
                    self.assertIsNone(cone(bench, x, of(fraction(told[-1][0]) + LITTLE)))
                    self.assertIsNone(cone(bench, x, of(fraction(told[0][0]) - LITTLE)))

    def test_of_12_figures(self):
        seeded = Seeded(8)
        wide = 10 ** 12 - 1
        for number in range(6):
            bench, x = seeded.bench(6, wide) + [("gap", (1, 7)), ("stop", (5, 3))] * 3, seeded.ratio(wide)
            told = field(bench, x)
            rays = slow_corners(seen_lines(bench, x))
            self.assertEqual([row[0] for row in told], [of(h) for h in sorted({fraction(ray[0]) for ray in rays})])
            self.assertEqual([row[1:] for row in told], [slow_cone(bench, x, row[0]) for row in told])


class Area(unittest.TestCase):
    def test_by_hand(self):
        self.assertEqual(area(corners(SQUARE)), (4, 1))
        self.assertEqual(area(tuple(corners(SQUARE))), (4, 1))
        self.assertEqual(area(corners(CUT)), (15, 4))
        self.assertEqual(area([((-2, 1), NOUGHT), (NOUGHT, (-1, 3)), ((2, 1), NOUGHT), (NOUGHT, (1, 3))]), (4, 3))

    def test_of_the_corners_and_of_the_field_for_each_plane(self):
        count = 0
        for bench in some_benches(9, 120):
            lines = lines_of(bench)
            if not all_along(lines):
                count += 1
                whole = area(corners(lines))
                self.assertTrue(is_ratio(whole))
                for x in PLANES:
                    self.assertEqual(field_area(field(bench, x)), whole)
                    self.assertEqual(area(corners(seen_lines(bench, x))), whole)
        self.assertGreater(count, 20)

    def test_great_corners(self):
        rays = corners(around(12, 60))
        whole = sum(
            fraction(one[0]) * fraction(other[1]) - fraction(other[0]) * fraction(one[1])
            for one, other in zip(rays, rays[1:] + rays[:1])
        )
        self.assertEqual(area(rays), of(whole / 2))


class Untouched(unittest.TestCase):
    def test_nothing_handed_in_is_changed_and_lists_are_the_askers_own(self):
        x, h = (1, 2), (1, 3)
        for deed in (
            lambda bench: cone(bench, x, h), lambda bench: narrowest(bench, x), lambda bench: pupil(bench, 5),
            lambda bench: field(bench, x),
        ):
            bench = copy.deepcopy(BENCH)
            first = deed(bench)
            kept = copy.deepcopy(first)
            if isinstance(first, list):
                first.pop()
            self.assertEqual(deed(bench), kept)
            self.assertEqual(bench, BENCH)
        rays = corners(SQUARE)
        kept = list(rays)
        area(rays)
        self.assertEqual(rays, kept)


if __name__ == "__main__":
    unittest.main()
