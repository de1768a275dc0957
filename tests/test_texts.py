"""[11.1], and of [0.2] and [0.3] what they say of texts."""

import copy
import unittest

from roundglass import errors
from roundglass.benches import is_bench
from roundglass.errors import GlassError, NoText
from roundglass.halls import is_hall
from roundglass.texts import bench_text, hall_text, ratio_text, read_bench, read_hall, read_ratio
from things import NOT_RATIO, Seeded

RATIOS = (
    ("0", (0, 1)), ("1", (1, 1)), ("-1", (-1, 1)), ("10", (10, 1)), ("1/2", (1, 2)), ("-1/2", (-1, 2)), ("-12/35", (-12, 35)),
    ("7/10", (7, 10)), ("100/7", (100, 7)), ("-100", (-100, 1)), ("2/3", (2, 3)), ("1/1000", (1, 1000)),
)
BENCH = [("gap", (2, 1)), ("glass", (-1, 3)), ("stop", (5, 7)), ("gap", (0, 1))]
BENCH_TEXT = "gap 2; glass -1/3; stop 5/7; gap 0"
NO_RATIOS = (
    "", " ", "-", "/", "+", "+1", "--1", "-0", "00", "01", "-01", "007/2", "0/1", "0/2", "0/7", "1/", "/2", "1/0", "1/1", "7/1",
    "1/-2", "-1/-2", "1/+2", "1/02", "1/00", "2/4", "-3/9", "6/3", "1//2", "1/2/3", " 1", "1 ", "1 /2", "1/ 2", "1 / 2", "- 1", "1\n",
    "\n1", "1\t", "\t1", "1/2\n", "1\n/2", "1.5", "1,5", "1e3", "0x1", "1_000", "a", "one", "nan", "far", "none", "1-", "1/2-", "(1, 2)",
    "1|2", "1;2", "½", "²", "١", "1/٢", "0-", "-/2", "-1/", "1/2 ", "0/-1", "-0/3", "00/7",
)
NO_TEXTS = (
    None, True, False, 0, 1, -3, (), [], {}, (1, 2), ["1"], ("1",), {"1": 2}, ["gap 1"], ("gap", (1, 1)), ((0, 1), [], (0, 1)),
)
REFUSALS = [getattr(errors, name) for name in ("NoRatio", "NoWhole", "TooMany", "NoRow", "NoPart", "NoNumber", "NoPast")]


class Refusing(unittest.TestCase):
    def refused(self, deed, thing):
        with self.assertRaises(NoText, msg=repr(thing)) as seen:
            deed(thing)
        self.assertIsInstance(seen.exception, GlassError)
        self.assertIsInstance(seen.exception, ValueError)
        for other in REFUSALS:
            self.assertNotIsInstance(seen.exception, other)


class Ratios(Refusing):
    def test_written_and_read(self):
        for text, one in RATIOS:
            self.assertEqual(ratio_text(one), text)
            self.assertEqual(read_ratio(text), one)

    def test_each_text_is_read_back(self):
        seeded = Seeded(1)
        for number in range(200):
            one = seeded.ratio(10 ** (1 + number))
            self.assertEqual(read_ratio(ratio_text(one)), one)
        for bottom in range(1, 30):
            for top in range(-30, 30):
                text = str(top) if bottom == 1 else f"{top}/{bottom}"
                try:
                    self.assertEqual(ratio_text(read_ratio(text)), text)
                except NoText:
                    self.assertFalse(bottom == 1)

    def test_of_many_figures_written(self):
        for figures in (59, 60, 61, 120, 121, 300, 301, 1000, 3999, 4000):
            nines, noughts = 10 ** figures - 1, 10 ** (figures - 1)
            self.assertEqual(ratio_text((nines, 1)), "9" * figures)
            self.assertEqual(ratio_text((-nines, 1)), "-" + "9" * figures)
            self.assertEqual(ratio_text((noughts, 1)), "1" + "0" * (figures - 1))
            self.assertEqual(ratio_text((-noughts, nines)), "-1" + "0" * (figures - 1) + "/" + "9" * figures)
            self.assertEqual(ratio_text((1, nines)), "1/" + "9" * figures)

    def test_of_somewhat_more_figures_written(self):
        for figures in (4001, 4300, 4301, 9000):
            self.assertEqual(ratio_text((-(10 ** figures - 1), 1)), "-" + "9" * figures)

    def test_of_300_and_301_figures_read(self):
        nines, more = "9" * 300, "9" * 301
        for text, one in (
            (nines, (10 ** 300 - 1, 1)), ("-" + nines, (1 - 10 ** 300, 1)), ("1/" + nines, (1, 10 ** 300 - 1)),
            ("-1" + "0" * 299 + "/" + nines, (-10 ** 299, 10 ** 300 - 1)),
        ):
            self.assertEqual(read_ratio(text), one)
        for text in (more, "-" + more, "1/" + more, more + "/2", "-" + more + "/2", nines + "/" + more, "1" + "0" * 300, "9" * 5000):
            self.refused(read_ratio, text)

    def test_none_so_written(self):
        for text in NO_RATIOS:
            self.refused(read_ratio, text)

    def test_no_text(self):
        for thing in NO_TEXTS:
            self.refused(read_ratio, thing)

    def test_signs_put_in_left_out_and_put_otherwise(self):
        signs = " \t\n-+/;|0123456789agn~!"
        for text, one in RATIOS:
            for place in range(len(text) + 1):
                others = [text[:place] + text[place + 1:]] + [text[:place] + sign + text[place:] for sign in signs]
                others += [text[:place] + sign + text[place + 1:] for sign in signs]
                for other in others:
                    try:
                        self.assertEqual(ratio_text(read_ratio(other)), other)
                    except NoText:
                        self.assertNotIn(other, [right for right, number in RATIOS])

    def test_what_is_no_ratio_is_not_written(self):
        for thing in NOT_RATIO:
            self.refused(ratio_text, thing)


class Benches(Refusing):
    def test_written_and_read(self):
        self.assertEqual(bench_text(BENCH), BENCH_TEXT)
        self.assertEqual(bench_text(tuple(BENCH)), BENCH_TEXT)
        self.assertEqual(read_bench(BENCH_TEXT), BENCH)
        self.assertEqual(read_bench("gap 1/2"), [("gap", (1, 2))])

    def test_without_parts(self):
        self.assertEqual(bench_text([]), "none")
        self.assertEqual(bench_text(()), "none")
        self.assertEqual(read_bench("none"), [])

    def test_each_text_is_read_back(self):
        seeded = Seeded(2)
        for number in range(100):
            bench = seeded.bench(number % 13, 10 ** (1 + number))
            told = read_bench(bench_text(bench))
            self.assertEqual(told, bench)
            self.assertIsInstance(told, list)
            self.assertTrue(is_bench(told))

    def test_of_twelve_and_thirteen_parts(self):
        for part in ("gap 1", "glass -1/2", "stop 3"):
            self.assertEqual(len(read_bench("; ".join([part] * 12))), 12)
            self.refused(read_bench, "; ".join([part] * 13))
            self.refused(read_bench, "; ".join([part] * 200))

    def test_numbers_that_parts_may_not_have(self):
        for text in ("gap -1", "gap -1/9", "stop 0", "stop -1", "stop -1/9"):
            self.refused(read_bench, text)
            self.refused(read_bench, BENCH_TEXT + "; " + text)
            self.refused(read_bench, text + "; " + BENCH_TEXT)
        for text, part in (("gap 0", ("gap", (0, 1))), ("glass 0", ("glass", (0, 1))), ("glass -9", ("glass", (-9, 1))), ("stop 1/9", ("stop", (1, 9)))):
            self.assertEqual(read_bench(text), [part])

    def test_none_so_written(self):
        for text in (
            "", " ", "None", "none ", " none", "none; none", "none; gap 1", "gap 1; none", "nothing", "gap", "gap ", "gap1", "1", "gap 1 ",
            " gap 1", "gap  1", "gap 1;", "gap 1; ", "; gap 1", ";gap 1", "gap 1;gap 2", "gap 1;  gap 2", "gap 1 ; gap 2", "gap 1, gap 2",
            "gap 1; ; gap 2", "gap 1\n", "gap 1;\ngap 2", "gap\t1", "gap 1\t", "Gap 1", "GAP 1", "lens 1", "glas 1", "gap 1 2", "gap gap 1",
            "1 gap", "gap: 1", "gap 1; glass", "gap 1; 2", "gap 1 gap 2", "gap 1; gap 2;", "gap 1\ngap 2", "gap none", "stop far", "gap; 1",
            "gap 1; ;", ";", "; ", "none;", "gap 1| gap 2",
        ):
            self.refused(read_bench, text)
        for text in NO_RATIOS:
            self.refused(read_bench, "glass " + text)
            self.refused(read_bench, "gap 1; glass " + text + "; gap 1")

    def test_of_300_and_301_figures(self):
        self.assertEqual(read_bench("gap 1; stop " + "9" * 300), [("gap", (1, 1)), ("stop", (10 ** 300 - 1, 1))])
        self.refused(read_bench, "gap 1; stop " + "9" * 301)

    def test_no_text(self):
        for thing in NO_TEXTS:
            self.refused(read_bench, thing)

    def test_signs_put_in_left_out_and_put_otherwise(self):
        for place in range(len(BENCH_TEXT) + 1):
            for sign in ("", " ", "\t", "\n", ";", "-", "/", "0", "1", "|", "a"):
                for other in (BENCH_TEXT[:place] + sign + BENCH_TEXT[place:], BENCH_TEXT[:place] + sign + BENCH_TEXT[place + 1:]):
                    try:
                        self.assertEqual(bench_text(read_bench(other)), other)
                    except NoText:
                        self.assertNotEqual(other, BENCH_TEXT)

    def test_what_is_no_bench_is_not_written(self):
        for thing in (None, 1, "none", "", {}, [1], [()], [["gap", (1, 1)]], [("gap", (-1, 1))], [("stop", (0, 1))], [("lens", (1, 1))], [("gap", 1)]):
            self.refused(bench_text, thing)

    def test_lists_are_the_askers_own(self):
        for text in ("none", "gap 1", BENCH_TEXT):
            first = read_bench(text)
            copied = list(first)
            first.append(("gap", (1, 1)))
            self.assertEqual(read_bench(text), copied)
        kept = copy.deepcopy(BENCH)
        bench_text(kept)
        self.assertEqual(kept, BENCH)


class Halls(Refusing):
    hall = ((1, 2), BENCH, (-3, 1))
    text = "1/2 | " + BENCH_TEXT + " | -3"

    def test_written_and_read(self):
        self.assertEqual(hall_text(self.hall), self.text)
        self.assertEqual(hall_text(((1, 2), tuple(BENCH), (-3, 1))), self.text)
        self.assertEqual(read_hall(self.text), self.hall)
        self.assertEqual(hall_text(((0, 1), [], (0, 1))), "0 | none | 0")
        self.assertEqual(read_hall("0 | none | 0"), ((0, 1), [], (0, 1)))

    def test_each_text_is_read_back(self):
        seeded = Seeded(3)
        for number in range(60):
            bound = 10 ** (1 + number)
            hall = (seeded.ratio(bound), seeded.bench(number % 9, bound), seeded.ratio(bound))
            told = read_hall(hall_text(hall))
            self.assertEqual(told, hall)
            self.assertIsInstance(told, tuple)
            self.assertIsInstance(told[1], list)
            self.assertTrue(is_hall(told))

    def test_of_eight_and_nine_parts(self):
        for part in ("gap 1", "glass -1/2", "stop 3"):
            self.assertEqual(len(read_hall("0 | " + "; ".join([part] * 8) + " | 1")[1]), 8)
            for count in (9, 12, 13):
                self.refused(read_hall, "0 | " + "; ".join([part] * count) + " | 1")

    def test_none_so_written(self):
        for text in (
            "", "|", " | ", " |  | ", "0", "0 | none", "none | 0", "none", "0 | none | ", " | none | 0", "0 | none | 0 | ", "0 | none | 0 | 0",
            "0 | 0 | 0", "0| none | 0", "0 |none | 0", "0 | none| 0", "0 | none |0", "0|none|0", "0  | none | 0", "0 |  none | 0",
            " 0 | none | 0", "0 | none | 0 ", "0 | none | 0\n", "0 | | 0", "0 |  | 0", "0 | none | none", "none | none | none",
            "0 | gap 1; | 0", "0 | gap -1 | 0", "0 | stop 0 | 0", "0 / none / 0", "0 ; none ; 0", "0\t| none | 0", "0 | gap 1 | gap 1 | 0",
            "far | none | 0", BENCH_TEXT,
        ):
            self.refused(read_hall, text)
        for text in NO_RATIOS:
            self.refused(read_hall, text + " | none | 0")
            self.refused(read_hall, "0 | none | " + text)
            self.refused(read_hall, "0 | glass " + text + " | 0")

    def test_no_text(self):
        for thing in NO_TEXTS:
            self.refused(read_hall, thing)

    def test_signs_put_in_left_out_and_put_otherwise(self):
        for place in range(len(self.text) + 1):
            for sign in ("", " ", "\t", "\n", ";", "-", "/", "0", "1", "|", "a"):
                for other in (self.text[:place] + sign + self.text[place:], self.text[:place] + sign + self.text[place + 1:]):
                    try:
                        self.assertEqual(hall_text(read_hall(other)), other)
                    except NoText:
                        self.assertNotEqual(other, self.text)

    def test_what_is_no_hall_is_not_written(self):
        for thing in (None, 1, "", [], (), list(self.hall), self.hall[:2], self.hall + ((0, 1),), (1, [], (0, 1)), ((0, 1), [1], (0, 1))):
            self.refused(hall_text, thing)

    def test_lists_are_the_askers_own(self):
        first = read_hall(self.text)
        first[1].pop()
        self.assertEqual(read_hall(self.text), self.hall)


if __name__ == "__main__":
    unittest.main()
