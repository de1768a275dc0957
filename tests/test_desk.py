"""[12.1], [12.2], and of [0.2] and [0.3] what they say of a desk."""

import unittest
from fractions import Fraction

from roundglass import errors
from roundglass.benches import table_of
from roundglass.desk import Desk
from roundglass.errors import GlassError, NoNumber, NoPart, NoPast, NoRow, TooMany
from roundglass.forever import ever
from roundglass.halls import kind
from roundglass.idle import idle
from roundglass.images import image
from roundglass.lines import lines_of
from roundglass.made import few_glasses
from roundglass.tables import led
from roundglass.texts import bench_text, hall_text, ratio_text, read_bench, read_hall
from roundglass.ways import stopped_by
from rooms import all_kinds, some_halls
from test_texts import NO_RATIOS, NO_TEXTS
from things import Seeded, of

REFUSALS = [getattr(errors, name) for name in ("NoRatio", "NoWhole", "TooMany", "NoText", "NoRow", "NoPart", "NoNumber", "NoPast")]
QUESTIONS = ("bench", "hall", "table", "image 2", "image far", "ray 1 0", "round", "ever 1 0", "glasses")
WORDS = (
    "put", "set", "cut", "near", "far", "back", "bench", "hall", "table", "image", "ray", "idle", "round", "ever", "glasses",
)


def desk_with(bench, near=(0, 1), far=(0, 1)):
    desk = Desk()
    for word, number in bench:
        desk.say(f"put {word} {ratio_text(number)}")
    desk.say("near " + ratio_text(near))
    desk.say("far " + ratio_text(far))
    return desk


def seen_of(desk):
    # All that the desk keeps, by its answers.
    bench = desk.say("bench")
    return (bench, desk.say("hall") if bench.count(";") < 8 else None)


class Telling(unittest.TestCase):
    def says(self, desk, rows):
        for row, answer in rows:
            told = desk.say(row)
            self.assertIsInstance(told, str)
            self.assertEqual(told, answer, row)

    def refuses(self, desk, row, refusal):
        kept = seen_of(desk)
        with self.assertRaises(refusal, msg=repr(row)) as seen:
            desk.say(row)
        self.assertIsInstance(seen.exception, GlassError)
        self.assertEqual([one for one in REFUSALS if isinstance(seen.exception, one)], [refusal])
        self.assertEqual(seen_of(desk), kept)


class Deeds(Telling):
    def test_at_first(self):
        self.says(Desk(), (
            ("bench", "none"), ("hall", "0 | none | 0"), ("table", "1 0 0 1"), ("image 3", "-3 1"), ("image far", "far far"),
            ("ray 1/2 -3", "out 1/2 -3"), ("round", "same 1"), ("ever 5 7", "never"), ("glasses", "none"),
        ))

    def test_put(self):
        self.says(Desk(), (
            ("put gap 2", "ok"), ("put glass -1/3", "ok"), ("put stop 5/7", "ok"), ("put gap 0", "ok"), ("put glass 0", "ok"),
            ("bench", "gap 2; glass -1/3; stop 5/7; gap 0; glass 0"),
        ))

    def test_set(self):
        self.says(desk_with(read_bench("gap 2; glass 1; stop 5")), (
            ("set 0 1/2", "ok"), ("bench", "gap 1/2; glass 1; stop 5"), ("set 1 -7", "ok"), ("set 2 1/9", "ok"),
            ("bench", "gap 1/2; glass -7; stop 1/9"), ("set 0 0", "ok"), ("set 1 0", "ok"), ("bench", "gap 0; glass 0; stop 1/9"),
        ))

    def test_cut(self):
        self.says(desk_with(read_bench("gap 2; glass 1; stop 5")), (
            ("cut 1", "ok"), ("bench", "gap 2; stop 5"), ("cut 1", "ok"), ("bench", "gap 2"), ("cut 0", "ok"), ("bench", "none"),
        ))

    def test_near_and_far(self):
        self.says(Desk(), (
            ("near 1/2", "ok"), ("hall", "1/2 | none | 0"), ("far -3", "ok"), ("hall", "1/2 | none | -3"), ("near 0", "ok"),
            ("hall", "0 | none | -3"), ("bench", "none"),
        ))

    def test_back_behind_each_deed(self):
        for deed in ("put gap 1", "put stop 1", "set 0 7", "set 1 7", "cut 0", "cut 2", "near 9", "far 9", "near 1/2", "set 0 2", "cut 1"):
            desk = desk_with(read_bench("gap 2; glass 1; stop 5"), (1, 2), (1, 3))
            kept = seen_of(desk)
            self.says(desk, ((deed, "ok"), ("back", "ok")))
            self.assertEqual(seen_of(desk), kept)

    def test_back_of_deeds_that_change_nothing(self):
        self.says(Desk(), (
            ("near 1", "ok"), ("near 1", "ok"), ("back", "ok"), ("hall", "1 | none | 0"), ("back", "ok"), ("hall", "0 | none | 0"),
        ))

    def test_back_until_no_past(self):
        desk = Desk()
        self.refuses(desk, "back", NoPast)
        deeds = ("put gap 1", "near 3", "put stop 2", "set 0 4", "far 5", "cut 1", "put glass 6")
        seen = [seen_of(desk)]
        for deed in deeds:
            self.says(desk, ((deed, "ok"),))
            seen.append(seen_of(desk))
        for kept in reversed(seen[:-1]):
            self.says(desk, (("back", "ok"),))
            self.assertEqual(seen_of(desk), kept)
        self.refuses(desk, "back", NoPast)
        self.refuses(desk, "back", NoPast)
        self.says(desk, (("put gap 1", "ok"), ("back", "ok"), ("bench", "none")))
        self.refuses(desk, "back", NoPast)

    def test_back_never_takes_back_itself(self):
        self.says(Desk(), (
            ("put gap 1", "ok"), ("put gap 2", "ok"), ("put gap 3", "ok"), ("back", "ok"), ("back", "ok"), ("bench", "gap 1"),
            ("put gap 4", "ok"), ("bench", "gap 1; gap 4"), ("back", "ok"), ("bench", "gap 1"), ("back", "ok"), ("bench", "none"),
        ))

    def test_questions_and_refusals_are_no_deeds(self):
        desk = desk_with(read_bench("gap 1; stop 2"))
        for row in QUESTIONS + ("idle 1",):
            desk.say(row)
        for row in ("put gap -1", "cut 9", "nothing", "set 0 -1"):
            self.assertRaises(GlassError, desk.say, row)
        self.says(desk, (("back", "ok"), ("back", "ok"), ("bench", "gap 1; stop 2"), ("back", "ok"), ("bench", "gap 1")))

    def test_two_desks(self):
        one, other = Desk(), Desk()
        self.says(one, (("put gap 1", "ok"), ("near 2", "ok")))
        self.says(other, (("hall", "0 | none | 0"), ("put stop 3", "ok")))
        self.says(one, (("hall", "2 | gap 1 | 0"), ("back", "ok"), ("back", "ok")))
        self.refuses(one, "back", NoPast)
        self.says(other, (("hall", "0 | stop 3 | 0"), ("back", "ok"), ("bench", "none")))


class Questions(Telling):
    def test_texts(self):
        for hall in some_halls(1, 30):
            desk = desk_with(hall[1], hall[0], hall[2])
            self.says(desk, (("bench", bench_text(hall[1])), ("hall", hall_text(hall))))

    def test_table(self):
        desk = desk_with(read_bench("gap 2; glass 1/3; stop 5; gap 6"))
        self.says(desk, (("table", "-1 4 -1/3 1/3"),))

    def test_image(self):
        desk = desk_with(read_bench("gap 2; glass 1/3; stop 5; gap 6"))
        self.says(desk, (
            ("image 3", "3/2 -3/2"), ("image 0", "-12 3"), ("image 1/2", "-21 6"), ("image -1", "-15/2 3/2"),
            # To far, and of far.
            ("image 1", "far far"), ("image far", "-3 far"),
        ))
        self.says(desk_with(read_bench("gap 2")), (("image far", "far far"), ("image 5", "-7 1")))

    def test_ray(self):
        desk = desk_with(read_bench("gap 2; glass 1/3; stop 5; gap 6; stop 1"))
        self.says(desk, (
            ("ray 1 0", "out -1 -1/3"), ("ray 0 0", "out 0 0"), ("ray 5 0", "stopped 4"), ("ray 6 0", "stopped 2"), ("ray -6 0", "stopped 2"),
            ("ray 1/2 0", "out -1/2 -1/6"), ("ray 1 1/2", "out 1 -1/6"),
        ))

    def test_idle(self):
        desk = desk_with(read_bench("stop 1; gap 1; stop 2; gap 1; stop 1"))
        self.says(desk, (("idle 0", "needed"), ("idle 2", "idle"), ("idle 4", "needed"), ("set 2 1", "ok"), ("idle 2", "idle")))
        self.says(desk, (("set 2 1/2", "ok"), ("idle 2", "needed"), ("idle 0", "needed")))
        self.says(desk_with(read_bench("gap 1; stop 1")), (("idle 1", "needed"),))
        self.says(desk_with(read_bench("gap 1; stop 1; stop 1; glass 3")), (("idle 2", "idle"), ("idle 1", "idle")))

    def test_round(self):
        for near, bench, far, told in (
            ("0", "none", "0", "same 1"), ("2", "gap 1", "2", "same 2"), ("0", "gap 1", "3/2", "same 3"), ("0", "gap 1", "1", "same 4"),
            ("0", "gap 1", "1/2", "same 6"), ("0", "gap 1", "3/4", "turns"), ("0", "gap 1", "0", "shear"), ("0", "gap 1", "2", "shear"),
            ("0", "gap 1", "-1/4", "off 1/2"), ("0", "gap 1", "9/4", "off -1/2"), ("0", "gap 1", "-1/2", "off"),
        ):
            hall = read_hall(f"{near} | {bench} | {far}")
            self.says(desk_with(hall[1], hall[0], hall[2]), (("round", told),))

    def test_ever(self):
        flat = desk_with(read_bench("stop 10; gap 1"))
        self.says(flat, (
            ("ever 0 0", "never"), ("ever 10 0", "never"), ("ever 11 0", "stopped 0 forth 0"), ("ever 0 1", "stopped 5 back 0"),
            ("ever 0 1/10000", "stopped 50000 back 0"), ("ever -10 -1/2", "stopped 0 back 0"),
        ))
        off = desk_with(read_bench("gap 1; stop 1"), (0, 1), (-1, 2))
        self.says(off, (("ever 0 0", "never"), ("ever 1 0", "stopped 1 forth 1"), (f"ever 1/{10 ** 99} 0", "late")))
        turns = desk_with(read_bench("stop 1; gap 1"), (0, 1), (3, 4))
        self.says(turns, (("ever 1 0", "never"), ("ever 1/2 1", "stopped 0 back 0")))

    def test_glasses(self):
        for bench, told in (
            ("none", "none"), ("gap 1; gap 2", "gap 3"), ("stop 1", "none"), ("glass 1; stop 2; glass -1", "none"),
            ("gap 1; glass 1/2; stop 3; gap 2", "gap 1; glass 1/2; gap 2"), ("glass 1; glass 2", "glass 3"),
        ):
            self.says(desk_with(read_bench(bench)), (("glasses", told),))

    def test_as_the_program_tells(self):
        seeded = Seeded(2)
        for hall in all_kinds() + some_halls(3, 60):
            near, bench, far = hall
            desk = desk_with(bench, near, far)
            table, x, ray = table_of(bench), seeded.ratio(5), seeded.ray(3)
            z, m = image(table, x)
            rows = [
                ("table", " ".join(ratio_text(entry) for entry in table)),
                ("image " + ratio_text(x), " ".join("far" if one is None else ratio_text(one) for one in (z, m))),
                ("glasses", bench_text(few_glasses(table))),
            ]
            k, asked = stopped_by(bench, ray), " ".join(ratio_text(one) for one in ray)
            out = "out " + " ".join(ratio_text(one) for one in led(table, ray))
            rows.append(("ray " + asked, out if k is None else f"stopped {k}"))
            told = kind(hall)
            shown = [told[0]] + ([str(told[1])] if told[0] == "same" else [])
            rows.append(("round", " ".join(shown + ([ratio_text(told[1])] if told[0] == "off" and told[1] else []))))
            told = ever(hall, ray)
            rows.append(("ever " + asked, " ".join(str(one) for one in told) if told[0] == "stopped" else told[0]))
            stops = [number for number, part in enumerate(bench) if part[0] == "stop"]
            rows += [(f"idle {number}", idle(lines_of(bench), line)[0]) for line, number in enumerate(stops)]
            self.says(desk, rows + rows[::-1])

    def test_the_same_question_behind_others(self):
        desk = desk_with(read_bench("stop 1; gap 1; glass 1/2; stop 2; gap 1"), (1, 3), (1, 4))
        asked = QUESTIONS + ("idle 0", "idle 3")
        first = [desk.say(row) for row in asked]
        self.assertEqual([desk.say(row) for row in reversed(asked)], first[::-1])
        desk.say("put stop 9")
        desk.say("back")
        self.assertEqual([desk.say(row) for row in asked], first)


class Great(Telling):
    def test_parts_of_300_figures(self):
        seeded = Seeded(4)
        wide = 10 ** 300 - 1
        bench = seeded.bench(12, wide)
        desk = desk_with(bench)
        table, ray = table_of(bench), ((1, wide), (-wide, wide - 1))
        self.says(desk, (("bench", bench_text(bench)), ("table", " ".join(ratio_text(entry) for entry in table))))
        self.assertEqual(desk.say("glasses"), bench_text(few_glasses(table)))
        z, m = image(table, (wide, 2))
        self.says(desk, ((f"image {wide}/2", ratio_text(z) + " " + ratio_text(m)),))
        k = stopped_by(bench, ray)
        out = "out " + " ".join(ratio_text(one) for one in led(table, ray))
        self.says(desk, ((f"ray 1/{wide} -{wide}/{wide - 1}", out if k is None else f"stopped {k}"),))

    def test_answers_of_very_many_figures(self):
        seeded = Seeded(5)
        wide = 10 ** 300 - 1
        bench = [part for part in seeded.bench(40, wide) if part[0] != "stop"][:12]
        table = table_of(bench)
        ray = (seeded.ratio(wide), seeded.ratio(wide))
        told = desk_with(bench).say("ray " + ratio_text(ray[0]) + " " + ratio_text(ray[1]))
        self.assertEqual(told, "out " + " ".join(ratio_text(one) for one in led(table, ray)))
        self.assertGreater(len(told), 12000)

    def test_a_round_of_very_many_figures(self):
        wide = 10 ** 300 - 1
        gaps = [("stop", (wide, 1))] + [("gap", of(Fraction(1, wide - k))) for k in range(7)]
        told = desk_with(gaps).say(f"ever 0 1/{wide}")
        word, passed, way, k = told.split(" ")
        self.assertEqual((word, way, k), ("stopped", "back", "0"))
        step = 2 * sum(Fraction(1, wide - number) for number in range(7)) / wide
        self.assertTrue(int(passed) * step <= wide < (int(passed) + 1) * step)


class Refusals(Telling):
    bench = read_bench("gap 2; glass 1; stop 5")

    def test_no_text(self):
        for thing in NO_TEXTS + (["bench"], ("bench",), [["back"]], {"bench": 1}):
            self.refuses(desk_with(self.bench), thing, NoRow)

    def test_none_of_these_rows(self):
        desk = desk_with(self.bench)
        for row in (
            "", " ", "Bench", "BENCH", "benches", "bench ", " bench", "bench\n", "\tbench", "bench bench", "hall 1", "table 1", "round 2",
            "glasses 1", "back 1", "back back", "put", "put gap", "put gap 1 2", "put 1 gap", "put lens 1", "put Gap 1", "put gap  1",
            "put  gap 1", "put gap 1 ", "put\tgap 1", "put gap\t1", "put gap 1\n", "put none 1", "set", "set 0", "set 0 1 2", "set gap 1",
            "cut", "cut 0 0", "cut gap", "near", "near 1 2", "near far", "far", "far far", "far 1 1", "image", "image 1 2", "image Far",
            "image none", "image far far", "ray", "ray 1", "ray 1 2 3", "ray far 1", "ray 1 far", "idle", "idle 1 2", "idle stop", "ever",
            "ever 1", "ever 1 2 3", "ever far 0", "forget", "undo", "gap 1", "none", "0 | none | 0", "put gap 1;", "put gap 1; gap 2", "\n",
        ):
            self.refuses(desk, row, NoRow)

    def test_numbers_not_so_written(self):
        desk = desk_with(self.bench)
        for text in NO_RATIOS:
            if text != "far":
                self.refuses(desk, "image " + text, NoRow)
            for row in ("put gap {}", "put glass {}", "set 1 {}", "near {}", "far {}", "ray {} 0", "ray 0 {}", "ever {} 0", "ever 0 {}"):
                self.refuses(desk, row.replace("{}", text), NoRow)

    def test_numbers_of_parts_not_so_written(self):
        desk = desk_with(self.bench)
        for text in tuple(NO_RATIOS) + ("-1", "1/2", "-1/2", "-2", "far", "5/2"):
            for row in ("set {} 1", "cut {}", "idle {}"):
                self.refuses(desk, row.replace("{}", text), NoRow)

    def test_of_300_and_301_figures(self):
        desk = desk_with(self.bench)
        for row in ("put gap {}", "near 1/{}", "far -{}", "set 1 {}"):
            self.says(desk, ((row.replace("{}", "7" * 300), "ok"),))
            self.refuses(desk, row.replace("{}", "7" * 301), NoRow)
        for row in ("cut {}", "set {} 1", "idle {}"):
            self.refuses(desk, row.replace("{}", "7" * 300), NoPart)
            self.refuses(desk, row.replace("{}", "7" * 301), NoRow)

    def test_no_part(self):
        for bench, numbers in (([], (0, 1, 12)), (self.bench, (3, 4, 10 ** 30))):
            for k in numbers:
                for row in (f"set {k} 1", f"cut {k}", f"idle {k}"):
                    self.refuses(desk_with(bench), row, NoPart)
        for k in (0, 1):
            self.refuses(desk_with(self.bench), f"idle {k}", NoPart)

    def test_no_number(self):
        desk = desk_with(self.bench)
        for row in ("put gap -1", "put gap -1/9", "put stop 0", "put stop -1", "set 0 -1", "set 0 -1/9", "set 2 0", "set 2 -1/9"):
            self.refuses(desk, row, NoNumber)

    def test_too_many(self):
        desk = desk_with([("gap", (1, 1))] * 11 + [("stop", (1, 1))])
        for row in ("put gap 1", "put glass -1", "put stop 1"):
            self.refuses(desk, row, TooMany)
        self.says(desk, (("cut 0", "ok"), ("put stop 2", "ok")))
        self.refuses(desk, "put gap 1", TooMany)

    def test_a_hall_of_eight_parts_and_of_nine(self):
        asked = ("hall", "round", "ever 1 0", "ever 0 0")
        for part in (("gap", (1, 1)), ("stop", (5, 1))):
            desk = desk_with([part] * 8)
            first = [desk.say(row) for row in asked]
            desk.say("put gap 0")
            for row in asked:
                self.refuses(desk, row, TooMany)
            for row in ("bench", "table", "image 1", "ray 1 0", "glasses"):
                desk.say(row)
            desk.say("put stop 1")
            self.refuses(desk, "round", TooMany)
            self.says(desk, (("back", "ok"), ("cut 8", "ok")))
            self.assertEqual([desk.say(row) for row in asked], first)

    def test_the_one_told_first(self):
        full = desk_with([("gap", (1, 1))] * 12)
        for row, refusal in (
            # Of a row that is none nothing else is asked.
            ("put gap x", NoRow), ("put lens -1", NoRow), ("ever 1 x", NoRow), ("ever 1", NoRow), ("round 1", NoRow), ("set 99 x", NoRow),
            ("hall 1", NoRow), ("set -1 -1", NoRow), ("set 1/2 -1", NoRow),
            # No part ahead of a number that it may not have.
            ("set 99 -1", NoPart), ("set 12 -1", NoPart),
            # Such a number ahead of a thirteenth part.
            ("put gap -1", NoNumber), ("put stop 0", NoNumber), ("set 11 -1", NoNumber),
            ("put gap 1", TooMany), ("round", TooMany), ("idle 3", NoPart), ("idle 12", NoPart),
        ):
            self.refuses(full, row, refusal)
        self.refuses(Desk(), "back 1", NoRow)
        self.refuses(Desk(), "back", NoPast)

    def test_each_word_with_other_counts(self):
        desk = desk_with(self.bench)
        right = {"put": 2, "set": 2, "cut": 1, "near": 1, "far": 1, "image": 1, "ray": 2, "idle": 1, "ever": 2}
        for word in WORDS:
            for count in range(5):
                if count != right.get(word, 0):
                    self.refuses(desk, " ".join([word] + ["1"] * count), NoRow)


if __name__ == "__main__":
    unittest.main()
