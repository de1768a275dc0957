"""[0.1] to [0.4] over the whole program: the interface's names, what is told handed in again, refusals, and the promise."""

import copy
import importlib
import inspect
import pathlib
import unittest

from roundglass.benches import is_bench, table_of, told_apart, turned_bench
from roundglass.corners import corners
from roundglass.errors import GlassError, NoRatio, NoText, NoWhole, TooMany
from roundglass.everjudge import late_shown, never_shown
from roundglass.forever import ever, hall_lines
from roundglass.halls import is_hall, kind, round_of
from roundglass.idle import idle, idle_right
from roundglass.lines import lines_of
from roundglass.made import few_gaps, few_glasses
from roundglass.most import most, most_right
from roundglass.ratios import over, ratio
from roundglass.spread import spread
from roundglass.tables import is_ray, is_table, led
from roundglass.texts import bench_text, hall_text, ratio_text, read_bench, read_hall, read_ratio
from roundglass.units import fewest, run_table
from roundglass.ways import way
from rooms import all_kinds, some_halls
from things import Seeded

INTERFACE = {
    "ratios": "is_whole/1 is_ratio/1 ratio/2 plus/2 minus/2 times/2 over/2 less/2 root/1",
    "tables": "is_ray/1 is_table/1 led/2 behind/2 undone/1 turned/1 cross/2 power/2",
    "benches": "is_bench/1 table_of/1 turned_bench/1 told_apart/2",
    "ways": "way/2 stopped_by/2 crossings/2",
    "images": "image/2 setting/4",
    "pairs": "tables_by/1",
    "lines": "is_line/1 lines_of/1 lets/2",
    "corners": "corners/1",
    "most": "most/3 most_right/4",
    "idle": "idle/2 idle_right/3",
    "cones": "cone/3 narrowest/2 pupil/2 field/2 area/1",
    "halls": "is_hall/1 round_of/1 kind/1 form/1 reach/4",
    "forever": "hall_lines/1 ever/2",
    "everjudge": "never_shown/3 late_shown/3",
    "made": "few_glasses/1 few_gaps/1",
    "units": "fewest/1 run_table/2",
    "spread": "spread/1",
    "texts": "ratio_text/1 bench_text/1 hall_text/1 read_ratio/1 read_bench/1 read_hall/1",
}
PACKAGE = pathlib.Path(__file__).resolve().parent.parent / "roundglass"


class Interface(unittest.TestCase):
    def test_each_function_is_there_with_its_arguments(self):
        for module, row in INTERFACE.items():
            held = importlib.import_module("roundglass." + module)
            for word in row.split():
                name, count = word.split("/")
                self.assertEqual(len(inspect.signature(getattr(held, name)).parameters), int(count), word)

    def test_the_desk(self):
        from roundglass.desk import Desk
        self.assertEqual(len(inspect.signature(Desk).parameters), 0)
        self.assertEqual(len(inspect.signature(Desk().say).parameters), 1)

    def test_ratio_by_names(self):
        self.assertEqual(ratio(top=6, bottom=-4), (-3, 2))
        self.assertEqual(ratio(5), (5, 1))

    def test_no_clock_chance_or_file(self):
        for path in PACKAGE.glob("*.py"):
            for row in path.read_text().split("\n"):
                if row.startswith(("import ", "from ")):
                    self.assertTrue(row.startswith("from roundglass."), row)


class HandedInAgain(unittest.TestCase):
    def test_what_is_told_of_a_hall(self):
        seeded = Seeded(1)
        wide = 10 ** 300 - 1
        hall = (seeded.ratio(wide), seeded.bench(6, wide), seeded.ratio(wide))
        table = round_of(hall)
        self.assertTrue(is_table(table))
        for deed in (few_glasses, few_gaps):
            bench = deed(table)
            self.assertTrue(is_bench(bench))
            self.assertIsNone(told_apart(bench, [("gap", (0, 1))] + bench))
            self.assertEqual(table_of(bench), table)
            again = (hall[0], bench, hall[2])
            self.assertTrue(is_hall(again))
            self.assertIn(kind(again)[0], ("off", "turns"))
            self.assertEqual(ever(again, led(table, ((1, 1), (1, 2)))), ("never", []))
        told = hall_lines(hall)
        lines = [line for way_word, number, line in told]
        self.assertEqual([most_right(lines, (1, 1), (1, 2), most(lines, (1, 1), (1, 2)))], [True])

    def test_texts_of_great_answers(self):
        seeded = Seeded(2)
        bench = [part for part in seeded.bench(30, 10 ** 300 - 1) if part[0] != "stop"][:12]
        for entry in table_of(bench):
            top, slash, bottom = ratio_text(entry).partition("/")
            self.assertGreater(len(top), 300)
            self.assertRaises(NoText, read_ratio, top)

    def test_rows_of_unit_parts(self):
        runs = fewest(run_table([("gap", 2), ("glass", 3)] * 300, 1))[1]
        told = spread(run_table(runs, -1))
        self.assertEqual(told, runs)
        self.assertEqual(run_table(told, 1), run_table(runs, 1))


class Refusals(unittest.TestCase):
    def test_each_is_a_glass_error_and_a_value_error(self):
        half = ((1, 2), (0, 1), (0, 1), (2, 1))
        long = ((1, 1), (4001, 1), (0, 1), (1, 1))
        for refusal, deed, things in (
            (NoRatio, ratio, (1, 0)), (NoRatio, over, ((1, 1), (0, 1))), (NoRatio, ratio, (None,)),
            (NoWhole, fewest, (half,)), (NoWhole, spread, (half,)), (TooMany, fewest, (long,)), (TooMany, spread, (long,)),
            (NoText, read_ratio, ("1/1",)), (NoText, read_bench, ("",)), (NoText, read_hall, (None,)),
        ):
            with self.assertRaises(refusal) as seen:
                deed(*things)
            self.assertIsInstance(seen.exception, GlassError)
            self.assertIsInstance(seen.exception, ValueError)
            self.assertEqual(seen.exception.__class__.__bases__, (GlassError,))


class Promise(unittest.TestCase):
    def test_the_table_leads_where_the_parts_do(self):
        seeded = Seeded(3)
        for count in range(13):
            bench, ray = seeded.bench(count), seeded.ray()
            self.assertEqual(led(table_of(bench), ray), way(bench, ray)[-1])
            self.assertEqual(read_bench(bench_text(bench)), bench)

    def test_of_every_stop_just_one(self):
        seeded = Seeded(4)
        for count in range(13):
            lines = lines_of(seeded.bench(count, 4))
            for k in range(len(lines)):
                told = idle(lines, k)
                self.assertTrue(idle_right(lines, k, told))

    def test_of_every_hall_and_ray_just_one(self):
        seeded = Seeded(5)
        for hall in all_kinds() + some_halls(6, 60):
            self.assertEqual(read_hall(hall_text(hall)), hall)
            for ray in (seeded.ray(3), seeded.ray(1)):
                told = ever(hall, ray)
                late = any(late_shown(hall, ray, k) for k in range(len(hall_lines(hall))))
                if told[0] == "never":
                    self.assertTrue(never_shown(hall, ray, told[1]))
                    self.assertFalse(late)
                if told[0] == "late":
                    self.assertTrue(late_shown(hall, ray, told[1]))

    def test_lists_in_what_is_told_are_new(self):
        bench = [("stop", (1, 1)), ("gap", (1, 1)), ("stop", (2, 1)), ("gap", (1, 1)), ("stop", (1, 1))]
        hall = ((1, 3), bench, (1, 2))
        kept = copy.deepcopy(hall)
        deeds = (
            lambda: turned_bench(bench), lambda: way(bench, ((1, 1), (0, 1))), lambda: lines_of(bench), lambda: corners(lines_of(bench)),
            lambda: most(lines_of(bench), (1, 1), (0, 1))[3], lambda: idle(lines_of(bench), 1)[1], lambda: hall_lines(hall),
            lambda: ever(hall, ((0, 1), (0, 1)))[1], lambda: few_glasses(table_of(bench)), lambda: few_gaps(table_of(bench)),
            lambda: fewest(((2, 1), (1, 1), (1, 1), (1, 1)))[1], lambda: spread(((2, 1), (1, 1), (1, 1), (1, 1))),
            lambda: read_bench("gap 1"), lambda: read_hall("0 | gap 1 | 0")[1],
        )
        for deed in deeds:
            first = deed()
            copied = copy.deepcopy(first)
            self.assertIsInstance(first, list)
            first.clear()
            self.assertEqual(deed(), copied)
            self.assertNotEqual(copied, [])
        self.assertEqual(hall, kept)
        self.assertTrue(is_ray(led(table_of(bench), ((1, 1), (0, 1)))))


if __name__ == "__main__":
    unittest.main()
