"""[3.2], [3.4], and of [0.2] what it says of ways."""

import copy
import unittest

from roundglass.benches import table_of
from roundglass.ratios import is_ratio
from roundglass.tables import cross, is_ray, led
from roundglass.ways import crossings, stopped_by, way
from things import Seeded, fraction, of, slow_led

BENCH = [("gap", (2, 1)), ("glass", (1, 3)), ("stop", (5, 1)), ("gap", (6, 1))]
STRONG = [("gap", (1, 1)), ("glass", (3, 1))] * 6
LITTLE = (1, 10 ** 59)


def some_benches(seed, bound=9):
    seeded = Seeded(seed)
    return [seeded.bench(count, bound) for count in range(13) for number in range(6)]


def some_rays(seed, count, bound=9):
    seeded = Seeded(seed)
    return [((1, 1), (0, 1)), ((0, 1), (1, 1))] + [seeded.ray(bound) for number in range(count)]


def slow_way(bench, ray):
    rays = [ray]
    for part in bench:
        rays.append(slow_led(part, rays[-1]))
    return rays


def slow_stopped_by(bench, ray):
    for number, part in enumerate(bench):
        height = fraction(slow_way(bench, ray)[number][0])
        if part[0] == "stop" and not -fraction(part[1]) <= height <= fraction(part[1]):
            return number
    return None


def slow_crossings(bench, ray):
    found = set([0] if ray[0] == (0, 1) else [])
    ahead = fraction((0, 1))
    for part, (y, u) in zip(bench, slow_way(bench, ray)):
        if part[0] == "gap":
            gap, first = fraction(part[1]), fraction(y)
            last = first + gap * fraction(u)
            if first == 0:
                found.add(ahead)
            if last == 0:
                found.add(ahead + gap)
            if first * last < 0:
                found.add(ahead + gap * first / (first - last))
            ahead += gap
    return [of(place + fraction((0, 1))) for place in sorted(found)]


class Way(unittest.TestCase):
    def test_by_hand(self):
        self.assertEqual(
            way(BENCH, ((1, 1), (1, 2))),
            [((1, 1), (1, 2)), ((2, 1), (1, 2)), ((2, 1), (-1, 6)), ((2, 1), (-1, 6)), ((1, 1), (-1, 6))],
        )

    def test_without_parts(self):
        for bench in ([], ()):
            self.assertEqual(way(bench, ((3, 2), (1, 7))), [((3, 2), (1, 7))])

    def test_as_parts_lead_and_as_the_table_does(self):
        for bench in some_benches(1):
            for ray in some_rays(2, 3) + [((0, 1), (0, 1))]:
                told = way(bench, ray)
                self.assertEqual(told, slow_way(bench, ray))
                self.assertEqual(way(tuple(bench), ray), told)
                self.assertIsInstance(told, list)
                self.assertTrue(all(is_ray(behind) for behind in told))
                self.assertEqual(told[-1], led(table_of(bench), ray))

    def test_stops_stop_nothing(self):
        stop = ("stop", (1, 9))
        self.assertEqual(way([stop, stop], ((5, 1), (1, 1))), [((5, 1), (1, 1))] * 3)

    def test_of_60_figures(self):
        seeded = Seeded(3)
        bench, ray = seeded.bench(12, 10 ** 60 - 1), seeded.ray(10 ** 60 - 1)
        self.assertEqual(way(bench, ray), slow_way(bench, ray))

    def test_what_is_told_is_handed_in_again(self):
        seeded = Seeded(4)
        bench, ray = seeded.bench(12, 10 ** 60 - 1), seeded.ray(10 ** 60 - 1)
        once = way(bench, ray)[-1]
        self.assertEqual(way(bench, once), slow_way(bench, once))
        self.assertEqual(stopped_by(bench, once), slow_stopped_by(bench, once))
        self.assertEqual(crossings(bench, once), slow_crossings(bench, once))


class StoppedBy(unittest.TestCase):
    def test_by_hand(self):
        self.assertIsNone(stopped_by(BENCH, ((1, 1), (1, 2))))
        self.assertEqual(stopped_by(BENCH, ((1, 1), (9, 4))), 2)
        self.assertEqual(stopped_by(tuple(BENCH), ((-1, 1), (-9, 4))), 2)

    def test_without_parts_or_stops(self):
        for bench in ([], (), [("gap", (1, 1))], [("glass", (1, 1)), ("gap", (9, 1))]):
            self.assertIsNone(stopped_by(bench, ((99, 1), (99, 1))))

    def test_at_the_very_number_and_a_little_beyond(self):
        ahead = [("gap", (1, 1)), ("glass", (1, 2)), ("gap", (2, 1))]
        bench = ahead + [("stop", (3, 7)), ("gap", (1, 1))]
        # Behind such parts the height is the slope by 2, as 1 less 2 by 1/2 is nought of the height.
        for height, number in (
            (of(fraction((3, 7))), None),
            (of(fraction((3, 7)) + fraction(LITTLE)), 3),
            (of(fraction((3, 7)) - fraction(LITTLE)), None),
            (of(-fraction((3, 7))), None),
            (of(-fraction((3, 7)) - fraction(LITTLE)), 3),
            (of(-fraction((3, 7)) + fraction(LITTLE)), None),
            ((0, 1), None),
        ):
            ray = ((5, 1), of(fraction(height) / 2))
            self.assertEqual(slow_way(bench, ray)[3][0], height)
            self.assertEqual(stopped_by(bench, ray), number)
            self.assertEqual(stopped_by([("stop", (3, 7))], (height, (4, 1))), None if number is None else 0)

    def test_the_first_of_several(self):
        gap = ("gap", (1, 1))
        wide, narrow = ("stop", (4, 1)), ("stop", (2, 1))
        ray = ((3, 1), (0, 1))
        self.assertEqual(stopped_by([wide, gap, narrow, gap, narrow], ray), 2)
        self.assertEqual(stopped_by([narrow, gap, wide, narrow], ray), 0)
        self.assertEqual(stopped_by([wide, narrow, narrow], ray), 1)
        self.assertEqual(stopped_by([wide, gap, narrow], ((2, 1), (3, 1))), 2)
        self.assertEqual(stopped_by([narrow, gap, narrow], ((2, 1), (1, 1))), 2)
        self.assertEqual(stopped_by([wide, gap, wide, gap, wide], ((3, 1), (1, 1))), 4)

    def test_as_told(self):
        seen = set()
        for bench in some_benches(5, 4):
            for ray in some_rays(6, 6, 4) + [((0, 1), (0, 1))]:
                told = stopped_by(bench, ray)
                self.assertEqual(told, slow_stopped_by(bench, ray))
                self.assertEqual(stopped_by(tuple(bench), ray), told)
                seen.add(told)
        self.assertGreater(len(seen), 9)


class Crossings(unittest.TestCase):
    def test_by_hand(self):
        self.assertEqual(crossings([("gap", (4, 1))], ((1, 1), (-1, 2))), [(2, 1)])
        self.assertEqual(crossings([("gap", (4, 1))], ((1, 1), (1, 2))), [])
        bench = [("gap", (2, 1)), ("glass", (1, 1)), ("gap", (4, 1)), ("stop", (1, 2)), ("glass", (3, 1)), ("gap", (1, 1))]
        # Behind the first glass it is (2, -1), so at the axis at 4; behind the second (-2, 5), so there at 6 and 2/5.
        self.assertEqual(crossings(bench, ((0, 1), (1, 1))), [(0, 1), (4, 1), (32, 5)])
        self.assertEqual(crossings(tuple(bench), ((0, 1), (1, 1))), [(0, 1), (4, 1), (32, 5)])

    def test_at_the_begin(self):
        gap, glass = ("gap", (1, 1)), ("glass", (1, 9))
        for bench in ([gap], [gap, gap], [glass, gap], [("stop", (1, 1)), glass, gap], [("gap", (0, 1)), gap]):
            self.assertEqual(crossings(bench, ((0, 1), (-3, 5))), [(0, 1)])

    def test_at_the_very_end(self):
        for behind in ([], [("glass", (7, 1))], [("stop", (1, 1)), ("gap", (0, 1))]):
            bench = [("gap", (1, 3)), ("gap", (2, 3))] + behind
            self.assertEqual(crossings(bench, ((2, 1), (-2, 1))), [(1, 1)])
            self.assertEqual(crossings(bench, ((2, 1), (-199, 100))), [])
            self.assertEqual(crossings(bench, ((2, 1), (-201, 100))), [(200, 201)])

    def test_where_two_gaps_meet(self):
        gap = ("gap", (1, 1))
        for between in (
            [], [("gap", (0, 1))], [("glass", (5, 1))], [("stop", (1, 9))], [("gap", (0, 1)), ("gap", (0, 1))],
            [("glass", (5, 1)), ("gap", (0, 1)), ("stop", (1, 9)), ("glass", (-2, 1))],
        ):
            self.assertEqual(crossings([gap] + between + [gap], ((1, 1), (-1, 1))), [(1, 1)])
            self.assertEqual(crossings([gap, gap] + between + [gap, gap], ((2, 1), (-1, 1))), [(2, 1)])

    def test_without_gaps(self):
        for bench in ([], (), [("glass", (1, 1))], [("stop", (1, 1)), ("glass", (2, 1))], [("gap", (0, 1))]):
            self.assertEqual(crossings(bench, ((0, 1), (1, 1))), [(0, 1)])
            self.assertEqual(crossings(bench, ((1, 1), (-1, 1))), [])
            self.assertEqual(crossings(bench, ((-1, 2), (0, 1))), [])

    def test_level_rays(self):
        self.assertEqual(crossings([("gap", (9, 1))], ((1, 1), (0, 1))), [])
        self.assertEqual(crossings([("gap", (1, 1)), ("glass", (1, 2)), ("gap", (2, 1))], ((1, 1), (0, 1))), [(3, 1)])
        # Level behind the glass, as it went from the axis at 0 with slope 1.
        self.assertEqual(crossings([("gap", (2, 1)), ("glass", (1, 2)), ("gap", (9, 1))], ((0, 1), (1, 1))), [(0, 1)])

    def test_as_told(self):
        counts = set()
        for bench in some_benches(7, 3) + [STRONG]:
            for ray in some_rays(8, 5, 3):
                if ray != ((0, 1), (0, 1)):
                    told = crossings(bench, ray)
                    self.assertEqual(told, slow_crossings(bench, ray))
                    self.assertEqual(crossings(tuple(bench), ray), told)
                    self.assertIsInstance(told, list)
                    self.assertTrue(all(is_ratio(place) for place in told))
                    counts.add(len(told))
        self.assertGreater(len(counts), 3)

    def test_one_crossing_of_each_other_ray_between_two(self):
        for bench in some_benches(9, 3) + [STRONG]:
            rays = [ray for ray in some_rays(10, 4, 5) if ray != ((0, 1), (0, 1))]
            for one in rays:
                for other in rays:
                    if cross(one, other) != (0, 1):
                        ours = [fraction(place) for place in crossings(bench, one)]
                        theirs = [fraction(place) for place in crossings(bench, other)]
                        self.assertFalse(set(ours) & set(theirs))
                        for first, last in zip(ours, ours[1:]):
                            self.assertEqual(len([place for place in theirs if first < place < last]), 1)

    def test_of_60_figures(self):
        seeded = Seeded(11)
        bench, ray = seeded.bench(12, 10 ** 60 - 1), seeded.ray(10 ** 60 - 1)
        self.assertEqual(crossings(bench, ray), slow_crossings(bench, ray))


class Untouched(unittest.TestCase):
    def test_nothing_handed_in_is_changed_and_lists_are_the_askers_own(self):
        ray = ((0, 1), (9, 4))
        for deed in (way, stopped_by, crossings):
            bench = copy.deepcopy(BENCH)
            first = deed(bench, ray)
            kept = copy.deepcopy(first)
            if isinstance(first, list):
                first.append(None)
                self.assertIsNot(deed(bench, ray), deed(bench, ray))
            self.assertEqual(deed(bench, ray), kept)
            self.assertEqual(bench, BENCH)


if __name__ == "__main__":
    unittest.main()
