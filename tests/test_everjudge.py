"""[8.3], [8.4], of [0.4] that what a judge lets by is so, and of [0.2] what it says of both."""

import copy
import unittest
from fractions import Fraction

from roundglass.everjudge import late_shown, never_shown
from roundglass.forever import ever, hall_lines
from roundglass.halls import kind, reach
from rooms import (
    GAP, NOUGHT, OFF, OFF_WITHOUT, SAME, SHEAR, STILL, TURNS, all_kinds, hall_with, slow_late, slow_line_right, slow_stop,
    slow_table, slow_word, some_halls, with_stops,
)
from things import Seeded, fraction, of

ONE = (1, 1)
WIDE = 10 ** 300 - 1
OTHER_THINGS = (0, 1, 2, 3, 4, 6, -1, 7, 12, NOUGHT, ONE, (-1, 1), (1, 2), (-1, 2), (2, 1), (3, 1), (9, 1), 10 ** 30)
WORDS = ("nought", "round", "reach", "kept", "", "Nought", "never", "late", "round ")


def slow_right(hall, ray, paper):
    lines = [line for way, number, line in hall_lines(hall)]
    if len(lines) != len(paper):
        return False
    return all(slow_line_right(hall, ray, line, shown) for line, shown in zip(lines, paper))


def opposite(ray):
    return tuple((-top, bottom) for top, bottom in ray)


def kept_ray(hall, k):
    a, b, c, d = slow_table(hall)
    return (of(b), of(k - a))


def one_of_each():
    # A hall and a ray with a paper of never for each word.
    told = [(with_stops(SAME[n], 9), (ONE, (1, 2))) for n in SAME]
    told += [(with_stops(hall, 100), (ONE, (1, 2))) for hall in TURNS]
    told += [(with_stops(hall, 10 ** 9), kind(hall)[1]) for t in SHEAR for hall in SHEAR[t]]
    told += [(with_stops(hall, 10 ** 9), kept_ray(hall, fraction(k))) for k, hall in OFF.items()]
    told += [(with_stops(hall, 1), STILL) for hall in OFF_WITHOUT + TURNS + SHEAR[2]]
    told.append((((2, 1), [("stop", (3, 1)), GAP, ("stop", (1, 9))], (5, 1)), ((-1, 1), ONE)))
    return told


class NeverShown(unittest.TestCase):
    def agree(self, hall, ray, paper):
        told = never_shown(hall, ray, paper)
        self.assertIs(told, slow_right(hall, ray, paper), (hall, ray, paper))
        self.assertIs(never_shown((hall[0], tuple(hall[1]), hall[2]), ray, tuple(paper)), told)
        return told

    def test_told_papers(self):
        words = set()
        for hall, ray in one_of_each():
            word, paper = ever(hall, ray)
            self.assertEqual(word, "never")
            words |= {shown[0] for shown in paper}
            self.assertTrue(self.agree(hall, ray, paper))
        self.assertEqual(words, {"nought", "round", "reach", "kept"})

    def test_one_tuple_turned(self):
        seen = set()
        for hall, ray in one_of_each():
            paper = ever(hall, ray)[1]
            for place, shown in enumerate(paper):
                others = [(word,) + shown[1:] for word in WORDS] + [shown[:1] + (thing,) for thing in OTHER_THINGS]
                others += [shown + (thing,) for thing in (0, ONE)] + [shown[:-1], shown[:1], shown + shown[1:]]
                others += [(word,) for word in WORDS] + [("kept", thing) for thing in OTHER_THINGS]
                others += [("round", n) for n in (1, 2, 3, 4, 6)] + [("nought", NOUGHT), ("round", 1, 1)]
                for other in others:
                    turned = paper[:place] + [other] + paper[place + 1:]
                    seen.add(self.agree(hall, ray, turned))
        self.assertEqual(seen, {True, False})

    def test_a_tuple_more_or_fewer(self):
        for hall, ray in one_of_each():
            paper = ever(hall, ray)[1]
            for other in (paper[1:], paper[:-1], paper + paper[-1:], [("nought",)] + paper, [], paper * 2):
                self.assertIs(never_shown(hall, ray, other), False)

    def test_an_empty_paper(self):
        for hall in all_kinds():
            for ray in (STILL, (ONE, (7, 1))):
                for paper in ([], ()):
                    self.assertIs(never_shown(hall, ray, paper), hall_lines(hall) == [])
                if not hall_lines(hall):
                    self.assertIs(never_shown(hall, ray, [("nought",)]), False)

    def test_nought(self):
        paper = [("nought",)] * 4
        for hall in all_kinds():
            if len(hall_lines(hall)) == 4:
                self.assertTrue(self.agree(hall, STILL, paper))
                self.assertFalse(self.agree(hall, (ONE, ONE), paper))
        # Only one of both is 0.
        hall = (NOUGHT, [("stop", (99, 1)), GAP], NOUGHT)
        self.assertFalse(self.agree(hall, (NOUGHT, ONE), [("nought",)] * 2))
        self.assertFalse(self.agree(hall, ((-2, 1), ONE), [("nought",)] * 2))

    def test_round(self):
        for n, hall in SAME.items():
            stopped = with_stops(hall, 9)
            for k in (-1, 0, 1, 2, 3, 4, 5, 6, 8, 12):
                self.assertIs(self.agree(stopped, (ONE, (1, 2)), [("round", k)] * 4), k == n)
            self.assertFalse(self.agree(stopped, (ONE, (1, 2)), [("round", (n, 1))] * 4))
        for hall in TURNS + SHEAR[2] + SHEAR[-2] + OFF_WITHOUT:
            for n in (1, 2, 3, 4, 6):
                self.assertFalse(self.agree(with_stops(hall, 9), STILL, [("round", n)] * 4))

    def test_round_up_to_the_last(self):
        # In the last round alone of each the number is beyond.
        for n in (3, 4, 6):
            hall = SAME[n]
            seen = set()
            for ray in [Seeded(seed).ray(3) for seed in range(60)]:
                one = (hall[0], hall[1] + [("stop", ONE)], hall[2])
                stop = slow_stop(one, ray, n)
                seen.add(None if stop is None else stop[0])
                self.assertIs(self.agree(one, ray, [("round", n)] * 2), stop is None)
            self.assertIn(None, seen)
            self.assertGreater(len(seen), 2)

    def test_reach(self):
        for hall in TURNS:
            ray = (ONE, (1, 2))
            lines = [line for way, number, line in hall_lines(with_stops(hall, 1))]
            reaches = [reach(hall, ray, line[0], line[1]) for line in lines]
            paper = [("reach", s) for s in reaches]
            self.assertTrue(self.agree(with_stops(hall, 10 ** 6), ray, paper))
            self.assertFalse(self.agree(with_stops(hall, Fraction(1, 9)), ray, paper))
            for place in range(4):
                for turn in (Fraction(1, 10 ** 40), -Fraction(1, 10 ** 40), -2 * fraction(reaches[place])):
                    other = list(paper)
                    other[place] = ("reach", of(fraction(reaches[place]) + turn))
                    self.assertFalse(self.agree(with_stops(hall, 10 ** 6), ray, other))

    def test_reach_just_at_the_bound(self):
        hall = hall_with(Fraction(1, 2))
        for r, told in ((Fraction(1), True), (1 - Fraction(1, 10 ** 40), False), (1 + Fraction(1, 10 ** 40), True)):
            one = (hall[0], [("stop", of(r))] + hall[1], hall[2])
            self.assertIs(self.agree(one, (ONE, NOUGHT), [("reach", ONE)] * 2), told)

    def test_reach_is_of_turns_alone(self):
        for hall in list(SAME.values()) + SHEAR[2] + SHEAR[-2] + OFF_WITHOUT + list(OFF.values()):
            for s in (NOUGHT, ONE, (-1, 1)):
                self.assertFalse(self.agree(with_stops(hall, 9), STILL, [("reach", s)] * 4))
        # Of same 4 the formula tells 1 by (1, 0) for the height; it shows nothing.
        hall = (NOUGHT, [("stop", (9, 1)), GAP], ONE)
        self.assertEqual((kind(hall), reach(hall, (ONE, NOUGHT), ONE, NOUGHT)), (("same", 4), ONE))
        self.assertFalse(self.agree(hall, (ONE, NOUGHT), [("reach", ONE)] * 2))

    def test_whole_numbers_are_no_ratios(self):
        hall = hall_with(Fraction(1, 2))
        one = (hall[0], [("stop", (2, 1))] + hall[1], hall[2])
        self.assertIs(never_shown(one, (ONE, NOUGHT), [("reach", ONE)] * 2), True)
        self.assertIs(never_shown(one, (ONE, NOUGHT), [("reach", 1)] * 2), False)
        flat = (NOUGHT, [("stop", (2, 1)), GAP], NOUGHT)
        self.assertIs(never_shown(flat, (ONE, NOUGHT), [("kept", ONE)] * 2), True)
        self.assertIs(never_shown(flat, (ONE, NOUGHT), [("kept", 1)] * 2), False)

    def test_lists_are_no_tuples(self):
        for hall, ray in one_of_each():
            paper = ever(hall, ray)[1]
            self.assertIs(never_shown(hall, ray, [list(shown) for shown in paper]), False)

    def test_kept_in_a_hall_of_whatever_kind(self):
        ray = (ONE, (1, 2))
        self.assertTrue(self.agree(with_stops(SAME[1], 9), ray, [("kept", ONE)] * 4))
        self.assertTrue(self.agree(with_stops(SAME[2], 9), ray, [("kept", (-1, 1))] * 4))
        self.assertFalse(self.agree(with_stops(SAME[1], 9), ray, [("kept", (-1, 1))] * 4))
        self.assertFalse(self.agree(with_stops(SAME[2], 9), ray, [("kept", ONE)] * 4))
        # Of a ray of nought each k does of which k + 1 by k is t, and no other.
        for hall, k in [(SAME[1], 1), (SAME[2], -1), (SHEAR[2][1], 1), (SHEAR[-2][1], -1)] + [(OFF[k], fraction(k)) for k in OFF]:
            for other in (k, -k, 1 / Fraction(k), k + Fraction(1, 10 ** 30), Fraction(0)):
                self.assertIs(self.agree(with_stops(hall, 9), STILL, [("kept", of(Fraction(other)))] * 4), other == k)
        for n in (3, 4, 6):
            for k in (ONE, (-1, 1), NOUGHT, (1, 2)):
                self.assertFalse(self.agree(with_stops(SAME[n], 9), STILL, [("kept", k)] * 4))

    def test_kept_with_a_number_beyond(self):
        for k, hall in OFF.items():
            ray = kept_ray(hall, fraction(k))
            one = (hall[0], [("stop", of(abs(fraction(ray[0]))))] + hall[1], hall[2])
            self.assertTrue(self.agree(one, ray, [("kept", k)] * 2))
            self.assertTrue(self.agree(one, opposite(ray), [("kept", k)] * 2))
            less = (hall[0], [("stop", of(abs(fraction(ray[0])) - Fraction(1, 10 ** 30)))] + hall[1], hall[2])
            self.assertFalse(self.agree(less, ray, [("kept", k)] * 2))
            self.assertFalse(self.agree(less, opposite(ray), [("kept", k)] * 2))
            # It grows by 1 by k, and that is beyond 1.
            out = kept_ray(hall, 1 / fraction(k))
            self.assertFalse(self.agree(with_stops(hall, 10 ** 9), out, [("kept", of(1 / fraction(k)))] * 4))
            self.assertFalse(self.agree(with_stops(hall, 10 ** 9), out, [("kept", k)] * 4))

    def test_any_papers(self):
        seeded = Seeded(1)
        choose = seeded.source.choice
        halls = all_kinds() + some_halls(2, 60, 2)
        for number in range(3000):
            hall = choose(halls)
            ray = choose([STILL, (ONE, NOUGHT), (NOUGHT, (1, 2)), seeded.ray(2)])
            count = len(hall_lines(hall))
            one = choose([(choose(WORDS),), (choose(WORDS), choose(OTHER_THINGS)), ("kept", choose(OTHER_THINGS))])
            paper = choose([[one] * count, [(choose(WORDS), choose(OTHER_THINGS)) for line in range(count)]])
            self.agree(hall, ray, paper)

    def test_what_is_let_by_is_so(self):
        seeded = Seeded(3)
        for hall in [hall for hall in all_kinds() if hall_lines(hall)]:
            for ray in (STILL, (ONE, NOUGHT), (NOUGHT, (1, 2)), seeded.ray(2)):
                for shown in [("nought",)] + [("round", n) for n in SAME] + [("kept", k) for k in [ONE, (-1, 1)] + list(OFF)]:
                    if never_shown(hall, ray, [shown] * len(hall_lines(hall))):
                        self.assertIsNone(slow_stop(hall, ray, 30))

    def test_of_300_figures(self):
        hall = ((1, 3), [("gap", (WIDE, 10 ** 301 - 3)), ("stop", (3, 1)), ("glass", (WIDE, 10 ** 301 + 9))], (WIDE - 1, 3 * WIDE - 7))
        ray = ((1, WIDE), (1, 7))
        word, paper = ever(hall, ray)
        self.assertTrue(self.agree(hall, ray, paper))
        for turn in (1, -1):
            s = paper[1][1]
            self.assertIs(never_shown(hall, ray, [paper[0], ("reach", of(fraction(s) + Fraction(turn, 10 ** 5000)))]), False)


class LateShown(unittest.TestCase):
    def agree(self, hall, ray):
        told = []
        for k, (way, number, line) in enumerate(hall_lines(hall)):
            told.append(late_shown(hall, ray, k))
            self.assertIs(told[-1], slow_late(hall, ray, line), (hall, ray, k))
            self.assertIs(late_shown((hall[0], tuple(hall[1]), hall[2]), ray, k), told[-1])
        return told

    def test_same(self):
        for hall in SAME.values():
            for r in (Fraction(1, 9), 1, 10 ** 9):
                for ray in (STILL, (ONE, ONE), ((9, 1), (-7, 1))):
                    self.assertEqual(self.agree(with_stops(hall, r), ray), [False] * 4)

    def test_turns(self):
        for hall in TURNS:
            self.assertEqual(self.agree(with_stops(hall, 10 ** 6), (ONE, (1, 2))), [False] * 4)
            self.assertEqual(self.agree(with_stops(hall, Fraction(1, 10 ** 6)), (ONE, (1, 2))), [True] * 4)
            self.assertEqual(self.agree(with_stops(hall, Fraction(1, 10 ** 6)), STILL), [False] * 4)
        hall = hall_with(Fraction(1, 2))
        for r, told in ((Fraction(1), False), (1 - Fraction(1, 10 ** 40), True), (1 + Fraction(1, 10 ** 40), False)):
            self.assertEqual(self.agree((hall[0], [("stop", of(r))] + hall[1], hall[2]), (ONE, NOUGHT)), [told] * 2)

    def test_shear(self):
        for t in SHEAR:
            for hall in SHEAR[t]:
                for r in (Fraction(1, 9), 10 ** 99):
                    self.assertEqual(self.agree(with_stops(hall, r), kind(hall)[1]), [False] * 4)
                    # Between two mirrors without a gap no height changes.
                    self.assertIs(True in self.agree(with_stops(hall, r), (ONE, (1, 3))), hall[1] != [])
        # Equal numbers show nothing, though they are beyond and round 0 stops the ray.
        flat = (NOUGHT, [("stop", ONE), GAP], NOUGHT)
        self.assertEqual(self.agree(flat, ((9, 1), NOUGHT)), [False] * 2)
        # t being 2, x' is -x; t being -2, x' is x.
        self.assertEqual(self.agree(flat, ((-1, 1), ONE)), [True] * 2)
        hall = ((2, 1), [("stop", ONE), GAP], (5, 1))
        a, b, c, d = slow_table(hall)
        self.assertEqual(self.agree(hall, (of(b), of(1 - a))), [True] * 2)

    def test_one_line_of_several(self):
        hall = ((2, 1), [("stop", (3, 1)), GAP, ("stop", (1, 9))], (5, 1))
        self.assertEqual(self.agree(hall, ((-1, 1), ONE)), [False] * 4)
        # In a plane behind the near mirror each ray of a lone shear is kept: there the height never changes.
        lone = ((1, 1), [("stop", ONE), ("gap", NOUGHT)], (3, 1))
        self.assertEqual(kind(lone)[0], "shear")
        self.assertEqual(self.agree(lone, (ONE, (9, 1))), [False] * 2)

    def test_off(self):
        for k, hall in OFF.items():
            for r in (Fraction(1, 10 ** 9), 10 ** 99):
                self.assertEqual(self.agree(with_stops(hall, r), STILL), [False] * 4)
                # Numbers that dwindle are kept just where the first one is not beyond.
                for turn in (tuple, opposite):
                    dwindling = turn(kept_ray(hall, fraction(k)))
                    self.assertEqual(self.agree(with_stops(hall, r), dwindling), [r < 1] * 4)
                    self.assertEqual(self.agree(with_stops(hall, r), turn(kept_ray(hall, 1 / fraction(k)))), [True] * 4)
                self.assertEqual(self.agree(with_stops(hall, r), (ONE, (1, 3))), [True] * 4)
        for hall in OFF_WITHOUT:
            self.assertEqual(self.agree(with_stops(hall, 10 ** 99), (ONE, (1, 3))), [True] * 4)
            self.assertEqual(self.agree(with_stops(hall, 10 ** 99), STILL), [False] * 4)

    def test_off_with_dwindling_numbers_about_the_bound(self):
        for k, hall in OFF.items():
            ray = kept_ray(hall, fraction(k))
            x = abs(fraction(ray[0]))
            for r in (x, x + Fraction(1, 10 ** 30), x - Fraction(1, 10 ** 30), abs(fraction(k)) * x, x / 10 ** 9):
                one = (hall[0], [("stop", of(r))] + hall[1], hall[2])
                for turn in (tuple, opposite):
                    # On the way back the stop meets what begins the next round.
                    self.assertEqual(self.agree(one, turn(ray)), [r < x, r < abs(fraction(k)) * x])
                    self.assertIs(never_shown(one, turn(ray), [("kept", k)] * 2), r >= x)
                    self.assertEqual(ever(one, turn(ray))[0], "stopped" if r < x else "never")

    def test_each_line_of_an_off_hall_with_its_own_bound(self):
        wide, low = ("stop", (1000, 1)), ("stop", (1, 3))
        hall = ((5, 2), [("gap", (1, 2)), ("stop", (5, 2)), wide, ("gap", (1, 2)), low], ONE)
        ray = ((-3, 1), NOUGHT)
        self.assertEqual(kind(hall), ("off", (-1, 2)))
        told = self.agree(hall, ray)
        self.assertEqual(told[:2], [True, False])
        self.assertEqual(ever(hall, ray), ("stopped", 0, "forth", 1))

    def test_off_where_one_number_is_0(self):
        hall = OFF[(1, 2)]
        a, b, c, d = slow_table(hall)
        one = (hall[0], [("stop", ONE)] + hall[1], hall[2])
        self.assertIn(True, self.agree(one, (NOUGHT, ONE)))
        self.assertIn(True, self.agree(one, (of(-b), of(a))))

    def test_as_told(self):
        seen = set()
        for hall in all_kinds() + some_halls(4, 150, 2):
            for ray in (STILL, (ONE, NOUGHT), ((1, 3), (-1, 2))):
                for told in self.agree(hall, ray):
                    seen.add((slow_word(hall), told))
        self.assertEqual(len(seen), 7)

    def test_numbers_that_are_no_lines(self):
        hall = with_stops(OFF[(1, 2)], 1)
        for k, told in ((-5, False), (-4, False), (-1, False), (0, True), (3, True), (4, False), (9, False)):
            self.assertIs(late_shown(hall, (ONE, (1, 3)), k), told)

    def test_never_both(self):
        for hall in all_kinds() + some_halls(5, 150, 2):
            count = len(hall_lines(hall))
            for ray in (STILL, (ONE, NOUGHT), ((1, 3), (-1, 2)), ((1, 30), (-1, 20))):
                told = ever(hall, ray)
                late = [k for k in range(count) if late_shown(hall, ray, k)]
                if told[0] == "never":
                    self.assertTrue(never_shown(hall, ray, told[1]))
                    self.assertEqual(late, [])
                if told[0] == "late":
                    self.assertIn(told[1], late)
                if late:
                    for shown in (("nought",), ("kept", ONE), ("kept", (-1, 1)), ("kept", (1, 2)), ("round", 1)):
                        self.assertIs(never_shown(hall, ray, [shown] * count), False)


class Untouched(unittest.TestCase):
    def test_nothing_handed_in_is_changed(self):
        for kept, ray in one_of_each():
            hall = copy.deepcopy(kept)
            paper = ever(hall, ray)[1]
            copied = copy.deepcopy(paper)
            for again in range(2):
                self.assertIs(never_shown(hall, ray, paper), True)
                self.assertIs(late_shown(hall, ray, 0), False)
            self.assertEqual((hall, paper), (kept, copied))


if __name__ == "__main__":
    unittest.main()
