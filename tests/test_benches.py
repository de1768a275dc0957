"""[3.1], [3.3], of [0.4] the table of a bench, and of [0.2] and [0.3] what they say of benches."""

import copy
import unittest

from roundglass.benches import is_bench, table_of, told_apart, turned_bench
from roundglass.tables import behind, is_table, led, turned
from things import GREAT, NOT_RATIO, WIDE, Seeded, nests, rows, slow_led

SELF = ((1, 1), (0, 1), (0, 1), (1, 1))
LEVEL = ((1, 1), (0, 1))
AXIS = ((0, 1), (1, 1))
BENCH = [("gap", (2, 1)), ("glass", (1, 3)), ("stop", (5, 1)), ("gap", (6, 1))]


def some_benches(seed, bound=9):
    seeded = Seeded(seed)
    return [seeded.bench(count, bound) for count in range(13) for number in range(4)]


class Kinds(unittest.TestCase):
    def test_benches(self):
        for bench in some_benches(1) + [BENCH]:
            self.assertIs(is_bench(bench), True)
            self.assertIs(is_bench(tuple(bench)), True)

    def test_without_parts(self):
        self.assertIs(is_bench([]), True)
        self.assertIs(is_bench(()), True)

    def test_of_twelve_parts_and_of_thirteen(self):
        part = ("gap", (1, 1))
        self.assertIs(is_bench([part] * 12), True)
        self.assertIs(is_bench((part,) * 12), True)
        self.assertIs(is_bench([part] * 13), False)
        self.assertIs(is_bench((part,) * 13), False)

    def test_numbers_of_parts(self):
        for number, gap, glass, stop in (
            ((0, 1), True, True, False),
            ((-1, 1), False, True, False),
            ((-1, 9), False, True, False),
            ((1, 9), True, True, True),
            ((GREAT, WIDE), True, True, True),
            ((-GREAT, WIDE), False, True, False),
        ):
            self.assertIs(is_bench([("gap", number)]), gap)
            self.assertIs(is_bench([("glass", number)]), glass)
            self.assertIs(is_bench([("stop", number)]), stop)

    def test_numbers_are_ratios(self):
        for thing in NOT_RATIO:
            for word in ("gap", "glass", "stop"):
                self.assertIs(is_bench([(word, thing)]), False)

    def test_parts_are_pairs_of_a_word_and_a_ratio(self):
        number = (1, 1)
        for part in (
            ["gap", number], ("gap",), ("gap", number, number), (number, "gap"), ("lens", number), ("Gap", number),
            ("gap ", number), ("", number), (None, number), (True, number), (0, number), ([], number), ({}, number),
            (["gap"], number), (("gap",), number), {"gap": number}, "gap", None, 1, (), [], number,
        ):
            self.assertIs(is_bench([part]), False, part)
            self.assertIs(is_bench(BENCH + [part]), False, part)
            self.assertIs(is_bench([part] + BENCH), False, part)

    def test_no_lists(self):
        for thing in (None, True, 0, 1, "", "gap", "none", {}, {"gap": (1, 1)}, ("gap", (1, 1)), ["gap", (1, 1)]):
            self.assertIs(is_bench(thing), False, thing)

    def test_deep_and_wide_things(self):
        for thing in nests(5) + rows(70):
            self.assertIs(is_bench(thing), False)
        self.assertIs(is_bench([("gap", (1, 1))] * 14), False)


class Tables(unittest.TestCase):
    def test_of_none(self):
        self.assertEqual(table_of([]), SELF)
        self.assertEqual(table_of(()), SELF)

    def test_of_one_part(self):
        self.assertEqual(table_of([("gap", (2, 3))]), ((1, 1), (2, 3), (0, 1), (1, 1)))
        self.assertEqual(table_of([("gap", (0, 1))]), SELF)
        self.assertEqual(table_of([("glass", (2, 3))]), ((1, 1), (0, 1), (-2, 3), (1, 1)))
        self.assertEqual(table_of([("glass", (-2, 3))]), ((1, 1), (0, 1), (2, 3), (1, 1)))
        self.assertEqual(table_of([("glass", (0, 1))]), SELF)
        self.assertEqual(table_of([("stop", (2, 3))]), SELF)

    def test_by_hand(self):
        self.assertEqual(table_of(BENCH), ((-1, 1), (4, 1), (-1, 3), (1, 3)))
        self.assertEqual(table_of(tuple(BENCH)), table_of(BENCH))

    def test_leads_each_ray_as_its_parts_do(self):
        seeded = Seeded(2)
        for bench in some_benches(3):
            table = table_of(bench)
            self.assertTrue(is_table(table))
            self.assertEqual(table_of(tuple(bench)), table)
            for ray in [LEVEL, AXIS, ((0, 1), (0, 1))] + [seeded.ray() for number in range(5)]:
                along = ray
                for part in bench:
                    along = slow_led(part, along)
                self.assertEqual(led(table, ray), along)

    def test_of_great_numbers(self):
        seeded = Seeded(4)
        bench = seeded.bench(12, 10 ** 60 - 1)
        ray = along = seeded.ray(10 ** 60 - 1)
        for part in bench:
            along = slow_led(part, along)
        self.assertEqual(led(table_of(bench), ray), along)

    def test_one_bench_behind_another(self):
        for one, other in zip(some_benches(5), some_benches(6)):
            self.assertEqual(table_of(one[:6] + other[:6]), behind(table_of(one[:6]), table_of(other[:6])))

    def test_stops_stop_nothing(self):
        bench = [("stop", (1, 9)), ("gap", (1, 1)), ("stop", (1, 9))]
        self.assertEqual(led(table_of(bench), ((5, 1), (1, 1))), ((6, 1), (1, 1)))

    def test_of_somewhat_more_than_twelve_parts(self):
        self.assertEqual(table_of([("gap", (1, 1))] * 13), ((1, 1), (13, 1), (0, 1), (1, 1)))


class TurnedAbout(unittest.TestCase):
    def test_by_hand(self):
        told = [("gap", (6, 1)), ("stop", (5, 1)), ("glass", (1, 3)), ("gap", (2, 1))]
        self.assertEqual(turned_bench(BENCH), told)
        self.assertEqual(turned_bench(tuple(BENCH)), told)

    def test_a_list_of_the_askers_own(self):
        bench = list(BENCH)
        for handed in (bench, tuple(bench), [], (), bench[:1]):
            told = turned_bench(handed)
            self.assertIsInstance(told, list)
            self.assertIsNot(told, handed)
            told.append(("gap", (1, 1)))
            self.assertEqual(turned_bench(handed), told[:-1])
        self.assertEqual(bench, BENCH)

    def test_its_table_is_the_benchs_turned_about(self):
        for bench in some_benches(7):
            about = turned_bench(bench)
            self.assertEqual(turned_bench(about), bench)
            self.assertTrue(is_bench(about))
            self.assertEqual(table_of(about), turned(table_of(bench)))


class ToldApart(unittest.TestCase):
    def test_alike(self):
        gap = ("gap", (1, 1))
        for one, other in (
            ([], []), ([], ()), (BENCH, tuple(BENCH)), ([], [("stop", (1, 2))]), ([], [("gap", (0, 1))]),
            ([], [("glass", (0, 1))]), ([gap, gap], [("gap", (2, 1))]),
            ([("glass", (1, 2)), ("glass", (-1, 2))], [("stop", (3, 1))]),
        ):
            self.assertIsNone(told_apart(one, other))
            self.assertIsNone(told_apart(other, one))

    def test_the_first_ray_that_is_led_apart(self):
        gap, glass = ("gap", (1, 1)), ("glass", (1, 1))
        self.assertEqual(told_apart([], [gap]), AXIS)
        self.assertEqual(told_apart([gap], ()), AXIS)
        self.assertEqual(told_apart([], [glass]), LEVEL)
        self.assertEqual(told_apart([glass], [("glass", (-1, 1))]), LEVEL)
        self.assertEqual(told_apart([gap, glass], [glass, gap]), LEVEL)
        self.assertEqual(told_apart([gap, glass], [glass]), AXIS)

    def test_where_heights_alone_or_slopes_alone_are_unlike(self):
        lead = [("glass", (1, 1)), ("gap", (1, 1))]
        # (1, 0) comes to one slope by both, and to unlike heights.
        self.assertEqual(told_apart(lead, [("glass", (1, 1)), ("gap", (2, 1))]), LEVEL)
        # (1, 0) comes to one height by both, and to unlike slopes.
        self.assertEqual(told_apart([("gap", (1, 1)), ("glass", (2, 1))], [("gap", (1, 1)), ("glass", (3, 1))]), LEVEL)

    def test_as_tables_tell(self):
        benches = some_benches(8, 2)
        for one in benches:
            for other in benches:
                first, second = table_of(one), table_of(other)
                told = None
                if (first[1], first[3]) != (second[1], second[3]):
                    told = AXIS
                if (first[0], first[2]) != (second[0], second[2]):
                    told = LEVEL
                self.assertEqual(told_apart(one, other), told)


class Untouched(unittest.TestCase):
    def test_nothing_handed_in_is_changed(self):
        for deed in (is_bench, table_of, turned_bench, lambda bench: told_apart(bench, bench)):
            bench = copy.deepcopy(BENCH)
            first = deed(bench)
            self.assertEqual(bench, BENCH)
            self.assertEqual(deed(bench), first)


if __name__ == "__main__":
    unittest.main()
