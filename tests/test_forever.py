"""[8.1], [8.2], of [0.4] that of every hall and ray just one is told, and of [0.2] what it says of both."""

import copy
import unittest
from fractions import Fraction

from roundglass.everjudge import late_shown, never_shown
from roundglass.forever import ever, hall_lines
from roundglass.halls import kind
from roundglass.lines import is_line
from roundglass.ratios import is_ratio
from rooms import (
    GAP, NOUGHT, OFF, OFF_WITHOUT, SAME, SHEAR, STILL, TURNS, all_kinds, hall_with, slow_late, slow_line_right, slow_numbers,
    slow_steps, slow_stop, slow_stop_in, slow_table, slow_word, some_halls, stops_around, with_stops,
)
from things import Seeded, fraction, of, slow_led

BENCH = [("stop", (3, 1)), GAP, ("stop", (2, 1)), ("glass", (1, 2)), ("gap", (2, 1))]
WIDE = 10 ** 300 - 1


def small_rays(seed, count):
    seeded = Seeded(seed)
    return [STILL, ((1, 3), NOUGHT)] + [(seeded.ratio(3), seeded.ratio(3)) for number in range(count)]


def by_float(hall, ray, line, bound, rounds):
    # Whether some number goes beyond the bound; near enough where it is not just at it.
    x, later = [float(number) for number in slow_numbers(hall, ray, line[0], line[1], 2)]
    t = float(slow_table(hall)[0] + slow_table(hall)[3])
    for passed in range(rounds):
        if abs(x) > bound:
            return True
        x, later = later, t * later - x
    return False


class Lines(unittest.TestCase):
    def test_by_hand(self):
        told = hall_lines(((5, 1), BENCH, (1, 1)))
        self.assertEqual(told[:2], [
            ("forth", 0, ((1, 1), NOUGHT, (3, 1))), ("forth", 2, ((1, 1), (1, 1), (2, 1))),
        ])
        # (1, 0) is (1, -1/2) behind the glass, (0, -1/2) at the far mirror, (-1, -1/2) and (-1, 0) behind it, (-1, 0) last;
        # (0, 1) is (1, 1/2) behind the glass, (2, 1/2) and (2, -3/2) at the mirror, (-1, -1) behind it, (-2, -1) last.
        self.assertEqual(told[2:], [
            ("back", 2, ((-1, 1), (-1, 1), (2, 1))), ("back", 0, ((-1, 1), (-2, 1), (3, 1))),
        ])

    def test_without_stops(self):
        for bench in ([], (), [GAP], [GAP, ("glass", (1, 2))] * 4):
            self.assertEqual(hall_lines(((1, 1), bench, (2, 1))), [])

    def test_the_near_mirror_comes_behind_all_stops(self):
        self.assertEqual(hall_lines((NOUGHT, BENCH, (1, 1))), hall_lines(((7, 1), BENCH, (1, 1))))

    def test_numbers_are_heights_at_the_parts(self):
        for hall in all_kinds() + some_halls(1, 60):
            told = hall_lines(hall)
            self.assertIsInstance(told, list)
            self.assertEqual(hall_lines((hall[0], tuple(hall[1]), hall[2])), told)
            for ray in small_rays(2, 3):
                met, here = [], ray
                for way, number, part in slow_steps(hall):
                    if part[0] == "stop":
                        met.append((way, number, fraction(here[0]), part[1]))
                    here = slow_led(part, here)
                seen = []
                for row in told:
                    self.assertIsInstance(row, tuple)
                    way, number, line = row
                    self.assertTrue(is_line(line))
                    p, q, r = line
                    seen.append((way, number, fraction(p) * fraction(ray[0]) + fraction(q) * fraction(ray[1]), r))
                self.assertEqual(seen, met)

    def test_of_eight_stops(self):
        told = hall_lines((NOUGHT, [("stop", (k + 1, 1)) for k in range(8)], NOUGHT))
        self.assertEqual([row[:2] for row in told], [("forth", k) for k in range(8)] + [("back", 7 - k) for k in range(8)])


class Told(unittest.TestCase):
    def check(self, hall, ray):
        told = ever(hall, ray)
        self.assertIsInstance(told, tuple)
        self.assertEqual(ever((hall[0], tuple(hall[1]), hall[2]), ray), told)
        lines = [line for way, number, line in hall_lines(hall)]
        if told[0] == "never":
            word, paper = told
            self.assertIsInstance(paper, list)
            self.assertTrue(all(isinstance(shown, tuple) for shown in paper))
            self.assertEqual(len(paper), len(lines))
            self.assertTrue(all(slow_line_right(hall, ray, line, shown) for line, shown in zip(lines, paper)), (hall, ray, told))
            self.assertIs(never_shown(hall, ray, paper), True)
            self.assertFalse(any(late_shown(hall, ray, k) for k in range(len(lines))))
        elif told[0] == "late":
            word, k = told
            self.assertTrue(slow_late(hall, ray, lines[k]))
            self.assertIs(late_shown(hall, ray, k), True)
            self.assertIn(slow_word(hall), ("turns", "off"))
        else:
            word, passed, way, number = told
            self.assertEqual(word, "stopped")
        return told


class Ever(Told):
    def test_without_stops(self):
        for hall in all_kinds():
            if not hall_lines(hall):
                for ray in small_rays(3, 2):
                    self.assertEqual(ever(hall, ray), ("never", []))

    def test_stopped_in_round_0(self):
        hall = (NOUGHT, BENCH, (1, 1))
        self.assertEqual(ever(hall, ((4, 1), NOUGHT)), ("stopped", 0, "forth", 0))
        self.assertEqual(ever(hall, ((3, 1), NOUGHT)), ("stopped", 0, "forth", 2))
        self.assertEqual(ever(hall, ((-3, 1), NOUGHT)), ("stopped", 0, "forth", 2))
        # 3/2 + 5/6 is beyond 2 going forth; (-1, 5/2) is at 3/2 there and at -3/2 coming back, but at -4 last.
        self.assertEqual(ever(hall, ((3, 2), (5, 6))), ("stopped", 0, "forth", 2))
        self.assertEqual(ever(hall, ((-1, 1), (5, 2))), ("stopped", 0, "back", 0))
        self.assertEqual(ever(hall, ((1, 1), (-5, 2))), ("stopped", 0, "back", 0))

    def test_at_the_very_rim_nothing_is_stopped(self):
        for n in (2, 3, 4, 6):
            hall = stops_around(1, *{2: (-2, 0), 3: (-1, 0), 4: (0, 0), 6: (1, 0)}[n])
            if n == 2:
                hall = ((2, 1), hall[1], (2, 1))
            self.assertEqual(kind(hall), ("same", n))
            greatest = max(
                abs(number) for way, k, line in hall_lines(hall)
                for number in slow_numbers(hall, ((1, 1), (1, 3)), line[0], line[1], n)
            )
            rim = tuple(of(one / greatest) for one in (Fraction(1), Fraction(1, 3)))
            self.assertEqual(self.check(hall, rim)[0], "never")
            beyond = tuple(of(fraction(one) * (1 + Fraction(1, 10 ** 30))) for one in rim)
            self.assertEqual(self.check(hall, beyond)[0], "stopped")

    def test_by_the_first_such_line(self):
        stop = ("stop", (1, 1))
        self.assertEqual(ever((NOUGHT, [stop, stop], NOUGHT), ((2, 1), NOUGHT)), ("stopped", 0, "forth", 0))
        self.assertEqual(ever((NOUGHT, [("stop", (2, 1)), stop], NOUGHT), ((2, 1), NOUGHT)), ("stopped", 0, "forth", 1))
        # The height grows by 1 with each gap: 9 is beyond 8, and 10 beyond 9 behind it.
        hall = (NOUGHT, [("stop", (9, 1)), GAP, ("stop", (10, 1))], NOUGHT)
        for slope in (1, -1):
            self.assertEqual(ever(hall, (NOUGHT, (slope, 1))), ("stopped", 4, "back", 0))
            self.assertEqual(ever(hall, (of(Fraction(slope, 2)), (slope, 1))), ("stopped", 4, "back", 0))
        self.assertEqual(ever((NOUGHT, [("stop", (9, 1)), GAP, ("stop", (8, 1))], NOUGHT), (NOUGHT, (1, 1))), ("stopped", 4, "forth", 2))

    def test_as_slow_rounds_tell(self):
        seen = {}
        halls = all_kinds() + some_halls(4, 120, 2) + some_halls(5, 60)
        for hall in halls:
            for ray in small_rays(6, 5):
                told = self.check(hall, ray)
                slow = slow_stop(hall, ray, 60)
                if told[0] == "stopped" and told[1] < 60:
                    self.assertEqual(told[1:], slow, (hall, ray))
                else:
                    self.assertIsNone(slow, (hall, ray))
                seen.setdefault((slow_word(hall), told[0]), []).append(told)
        for pair in (("same", "never"), ("turns", "never"), ("shear", "never"), ("off", "never")):
            self.assertIn(pair, seen)
        stopped = [told for (word, form), row in seen.items() if form == "stopped" for told in row]
        self.assertEqual({told[2] for told in stopped}, {"forth", "back"})
        self.assertGreater(len({told[1] for told in stopped}), 8)

    def test_stopped_in_rounds_up_to_59_and_late_behind(self):
        # The numbers of this ray grow in each round; at the stop at the begin a ray comes back where the next round begins.
        hall, ray = OFF[(2, 3)], ((1, 1), NOUGHT)
        numbers = [abs(number) for number in slow_numbers(hall, ray, (1, 1), NOUGHT, 203)]
        self.assertEqual(numbers, sorted(numbers))
        for passed in (0, 1, 2, 30, 58, 59, 60, 61, 200):
            r = (numbers[passed] + numbers[passed + 1]) / 2
            told = self.check((hall[0], [("stop", of(r))] + hall[1], hall[2]), ray)
            if passed < 60:
                self.assertEqual(told, ("stopped", passed, "back", 0))
            else:
                self.assertEqual(told[0], "late")
        # Forth through the middle of a gap.
        halves = [("gap", (1, 2)), ("stop", (1, 1)), ("gap", (1, 2))]
        line = hall_lines((hall[0], halves, hall[2]))[0][2]
        numbers = [abs(number) for number in slow_numbers(hall, ray, line[0], line[1], 63)]
        for passed in (2, 30, 58, 59, 60, 61):
            halves[1] = ("stop", of(numbers[passed] - Fraction(1, 10 ** 9)))
            told = self.check((hall[0], halves, hall[2]), ray)
            self.assertEqual(told if passed < 60 else told[:1], ("stopped", passed, "forth", 1) if passed < 60 else ("late",))


class Never(Told):
    def test_nought(self):
        for hall in all_kinds():
            told = self.check(hall, STILL)
            self.assertEqual(told[0], "never")

    def test_nought_of_one_stop_alone(self):
        # (-1, 1) is on the axis at the far mirror, and comes back as its opposite.
        for far in ((2, 1), (5, 1), (-1, 3)):
            hall = ((2, 1), [("stop", (3, 1)), GAP, ("stop", (1, 10 ** 9))], far)
            word, paper = self.check(hall, ((-1, 1), (1, 1)))
            self.assertEqual((word, [paper[1], paper[2]]), ("never", [("nought",)] * 2))
            self.assertIn(paper[0], (("kept", (-1, 1)), ("round", 2)))

    def test_round(self):
        for n, hall in SAME.items():
            told = self.check(with_stops(hall, 10 ** 9), ((1, 1), (1, 2)))
            self.assertEqual(told, ("never", [("round", n)] * 4))

    def test_same_but_stopped_in_a_later_round(self):
        seen = set()
        for n, hall in SAME.items():
            for ray in small_rays(7, 12):
                for r in (1, 2, 3):
                    told = self.check(with_stops(hall, r), ray)
                    self.assertIn(told[0], ("never", "stopped"))
                    if told[0] == "stopped":
                        self.assertLess(told[1], n)
                        seen.add((n, told[1]))
                    self.assertEqual(told[1:] if told[0] == "stopped" else None, slow_stop(with_stops(hall, r), ray, n))
        self.assertLessEqual({(3, 1), (4, 1), (6, 1), (6, 2)}, seen)

    def test_reach(self):
        for hall in TURNS:
            told = self.check(with_stops(hall, 100), ((1, 1), (1, 2)))
            self.assertEqual([shown[0] for shown in told[1]], ["reach"] * 4)
            self.assertTrue(all(is_ratio(shown[1]) for shown in told[1]))

    def test_reach_just_at_the_bound(self):
        # The reach of (1, 0) for (1, 0) is 1 here.
        hall = hall_with(Fraction(1, 2))
        at = (hall[0], [("stop", (1, 1))] + hall[1], hall[2])
        self.assertEqual(self.check(at, ((1, 1), NOUGHT)), ("never", [("reach", (1, 1))] * 2))
        beneath = (hall[0], [("stop", of(1 - Fraction(1, 10 ** 40)))] + hall[1], hall[2])
        self.assertEqual(self.check(beneath, ((1, 1), NOUGHT)), ("stopped", 0, "forth", 0))

    def test_kept_by_shear(self):
        for t, halls in SHEAR.items():
            for hall in halls:
                ray = kind(hall)[1]
                told = self.check(with_stops(hall, 10 ** 9), ray)
                self.assertEqual(told[0], "never")
                self.assertLessEqual(set(told[1]), {("nought",), ("kept", (t // 2, 1))})

    def test_kept_by_off(self):
        for k, hall in OFF.items():
            a, b, c, d = slow_table(hall)
            ray = (of(b), of(fraction(k) - a))
            for turned in (ray, tuple((-top, bottom) for top, bottom in ray)):
                told = self.check(with_stops(hall, 10 ** 9), turned)
                self.assertEqual(told, ("never", [("kept", k)] * 4))
            out = (of(b), of(1 / fraction(k) - a))
            self.assertEqual(self.check(with_stops(hall, 10 ** 9), out)[0], "stopped")
            self.assertEqual(self.check(with_stops(hall, 10 ** 99), out)[0], "late")
            # In round 0 it is beyond already, and only then.
            r = abs(b) / 2
            self.assertEqual(self.check(with_stops(hall, r), ray), ("stopped", 0, "forth", 0))


class Late(Told):
    def test_turns(self):
        count = 0
        for hall in TURNS[:2]:
            for ray in (((1, 1), NOUGHT), ((1, 2), (-1, 3))):
                lone = (hall[0], hall[1] + [("stop", (1, 1))], hall[2])
                line = hall_lines(lone)[0][2]
                numbers = sorted(abs(number) for number in slow_numbers(lone, ray, line[0], line[1], 60))
                bound = of(Fraction(numbers[-1].numerator * 10 ** 30 // numbers[-1].denominator + 1, 10 ** 30))
                lone = (hall[0], hall[1] + [("stop", bound)], hall[2])
                told = self.check(lone, ray)
                if told[0] == "late":
                    count += 1
                    line = hall_lines(lone)[told[1]][2]
                    self.assertTrue(by_float(lone, ray, line, float(fraction(bound)), 10 ** 6))
                self.assertIsNone(slow_stop(lone, ray, 60))
        self.assertGreater(count, 1)

    def test_off_by_one_line_alone(self):
        # Each round takes the ray by -2; forth or back it is on the axis just where the stop stands.
        stop = ("stop", (10 ** 99, 1))
        for near, bench, far, ray, k in (
            (NOUGHT, [("gap", (1, 3)), stop, ("gap", (2, 3))], (9, 4), ((-1, 1), (-3, 1)), 0),
            ((9, 4), [("gap", (2, 3)), stop, ("gap", (1, 3))], NOUGHT, ((2, 1), (-3, 1)), 1),
        ):
            self.assertEqual(kind((near, bench, far)), ("off", (-1, 2)))
            self.assertEqual(self.check((near, bench, far), ray), ("late", k))
            self.assertIs(late_shown((near, bench, far), ray, 1 - k), False)

    def test_off(self):
        for hall in OFF_WITHOUT[:3] + list(OFF.values()):
            r = 10 ** 60
            told = self.check(with_stops(hall, r), ((1, 1), (1, 3)))
            if told[0] == "late":
                line = hall_lines(with_stops(hall, r))[told[1]][2]
                self.assertTrue(by_float(with_stops(hall, r), ((1, 1), (1, 3)), line, r, 10 ** 5))
            else:
                self.assertEqual(told[1:], slow_stop(with_stops(hall, r), ((1, 1), (1, 3)), 60))
            self.assertEqual(self.check(with_stops(hall, 10 ** 5000), ((1, 1), (1, 3)))[0], "late")

    def test_off_that_first_dwindles(self):
        # Of a ray near to the kept one the numbers fall for many rounds, and grow then.
        hall = OFF[(1, 2)]
        a, b, c, d = slow_table(hall)
        ray = (of(b), of(Fraction(1, 2) - a + Fraction(1, 10 ** 40)))
        told = self.check(with_stops(hall, 10), ray)
        self.assertEqual(told[0], "late")
        ray = (of(b), of(Fraction(1, 2) - a + Fraction(1, 10 ** 9)))
        told = self.check(with_stops(hall, 10), ray)
        self.assertEqual(told[1:], slow_stop(with_stops(hall, 10), ray, 60))
        self.assertGreater(told[1], 20)


class Sheared(Told):
    def first_beyond(self, hall, ray):
        # By the form of the numbers alone: x + n (x' - x), turned in each other round where t is -2.
        t = slow_table(hall)[0] + slow_table(hall)[3]
        found = []
        for k, (way, number, line) in enumerate(hall_lines(hall)):
            x, later = slow_numbers(hall, ray, line[0], line[1], 2)
            step, r = later * (t / 2) - x, fraction(line[2])
            n = 0
            if abs(x) <= r:
                if step == 0:
                    continue
                n = max((r - x) / step, (-r - x) / step).__floor__() + 1
                self.assertTrue(abs(x + (n - 1) * step) <= r)
            self.assertGreater(abs(x + n * step), r)
            found.append((n, k, way, number))
        return min(found)

    def test_never_late_however_great_the_round(self):
        rounds = set()
        for hall in SHEAR[2] + SHEAR[-2]:
            for r in (1, 50, Fraction(10 ** 9, 7), 10 ** 60, Fraction(10 ** 300 - 1, 7)):
                for ray in (((1, 1), (1, 3)), ((-1, 7), (2, 5)), ((1, 1), (-1, 1)), ((1, WIDE), (1, WIDE - 1))):
                    stopped = with_stops(hall, r)
                    told = self.check(stopped, ray)
                    if told[0] == "stopped":
                        n, k, way, number = self.first_beyond(stopped, ray)
                        self.assertEqual(told, ("stopped", n, way, number))
                        rounds.add(len(str(n)))
                        if n < 50:
                            self.assertEqual(slow_stop(stopped, ray, 60), told[1:])
        self.assertGreater(max(rounds), 500)
        self.assertIn(1, rounds)

    def test_by_hand(self):
        # A gap of 1 forth and back, and no powers: in each round the height grows by 2.
        hall = (NOUGHT, [("stop", (10 ** 40, 1)), GAP], NOUGHT)
        self.assertEqual(ever(hall, (NOUGHT, (1, 1))), ("stopped", 10 ** 40 // 2, "back", 0))
        self.assertEqual(ever(hall, (NOUGHT, (-1, 1))), ("stopped", 10 ** 40 // 2, "back", 0))
        self.assertEqual(ever(hall, ((1, 1), (1, 1))), ("stopped", 10 ** 40 // 2 - 1, "back", 0))
        self.assertEqual(ever(hall, ((7, 1), NOUGHT)), ("never", [("kept", (1, 1))] * 2))

    def test_round_59_and_60(self):
        for r, n in ((118, 59), (119, 59), (120, 60), (121, 60)):
            hall = (NOUGHT, [("stop", (r, 1)), GAP], NOUGHT)
            self.assertEqual(ever(hall, (NOUGHT, (1, 1))), ("stopped", n, *slow_stop_in(hall, (of(Fraction(2 * n)), (1, 1)))))


class Great(Told):
    def test_of_300_figures(self):
        seeded = Seeded(8)
        for number in range(4):
            hall = (seeded.ratio(WIDE), seeded.bench(3 + number, WIDE), seeded.ratio(WIDE))
            for ray in (seeded.ray(WIDE), ((1, WIDE), (1, WIDE - 1))):
                told = ever(hall, ray)
                if told[0] == "stopped":
                    self.assertEqual(slow_stop(hall, ray, told[1] + 1), told[1:])
                elif told[0] == "never":
                    self.assertIs(never_shown(hall, ray, told[1]), True)
                else:
                    self.assertIs(late_shown(hall, ray, told[1]), True)

    def test_turns_of_300_figures(self):
        bench = [("gap", (WIDE, 10 ** 301 - 3)), ("stop", (3, 1)), ("glass", (WIDE, 10 ** 301 + 9)), ("stop", (WIDE, WIDE // 5 * 2))]
        hall = ((1, 3), bench, (WIDE - 1, 3 * WIDE - 7))
        self.assertEqual(kind(hall)[0], "turns")
        for ray in (((1, WIDE), (1, 7)), ((1, 1), (WIDE - 2, WIDE))):
            told = self.check(hall, ray)
            slow = slow_stop(hall, ray, 8)
            self.assertEqual(told[0] if slow is None else told[1:], "never" if slow is None else slow)

    def test_what_is_told_is_handed_in_again(self):
        for hall in SHEAR[-2]:
            great = (hall[0], [("glass", (1, WIDE)), ("glass", (-1, WIDE))] + hall[1] + [("stop", (1, 1))], hall[2])
            word, ray = kind(great)
            self.assertEqual(word, "shear")
            told = self.check(great, ray)
            self.assertIn(told[0], ("never", "stopped"))


class Untouched(unittest.TestCase):
    def test_nothing_handed_in_is_changed_and_lists_are_the_askers_own(self):
        for kept in (with_stops(SAME[3], 9), with_stops(TURNS[0], 9), with_stops(SHEAR[2][1], 9), with_stops(OFF[(1, 2)], 9)):
            hall = copy.deepcopy(kept)
            first = hall_lines(hall)
            copied = list(first)
            first.pop()
            self.assertEqual(hall_lines(hall), copied)
            ray = STILL
            told = ever(hall, ray)
            paper = list(told[1])
            told[1].append(("nought",))
            self.assertEqual(ever(hall, ray), ("never", paper))
            self.assertEqual(hall, kept)
        empty = ever((NOUGHT, [], NOUGHT), STILL)[1]
        empty.append(1)
        self.assertEqual(ever((NOUGHT, [], NOUGHT), STILL), ("never", []))


if __name__ == "__main__":
    unittest.main()
