"""[5.4], of [0.4] that of every stop just one is told and that what the judge lets by is so, and of [0.2]."""

import copy
import unittest

from roundglass.idle import idle, idle_right
from roundglass.lines import lines_of
from roundglass.ratios import is_ratio
from roundglass.tables import is_ray
from shapes import (
    ALONG, CUT, LEVEL, SQUARE, TOUCHED, around, fit_shares, line, many, slow_corners, slow_lets, slow_most,
    slow_sums, some_lines,
)
from things import Seeded, fraction, of

NOUGHT = (0, 1)
STILL = (NOUGHT, NOUGHT)


def others(lines, k):
    return list(lines[:k]) + list(lines[k + 1:])


def slow_right(lines, k, told):
    if told[0] == "needed":
        return slow_lets(others(lines, k), told[1]) and not slow_lets([lines[k]], told[1])
    if not fit_shares(lines, told[1]) or k in [number for number, share in told[1]]:
        return False
    p, q, r = slow_sums(lines, told[1])
    return (p, q) == (fraction(lines[k][0]), fraction(lines[k][1])) and r <= fraction(lines[k][2])


class Idle(unittest.TestCase):
    def check(self, lines, k):
        told = idle(lines, k)
        self.assertTrue(slow_right(lines, k, told), (lines, k, told))
        self.assertIs(idle_right(lines, k, told), True)
        self.assertEqual(idle(tuple(lines), k), told)
        self.assertIs(idle_right(tuple(lines), k, told), True)
        self.assertIsInstance(told, tuple)
        self.assertEqual(len(told), 2)
        if told[0] == "idle":
            self.assertIsInstance(told[1], list)
            self.assertTrue(all(isinstance(pair, tuple) and is_ratio(pair[1]) for pair in told[1]))
        else:
            self.assertEqual(told[0], "needed")
            self.assertTrue(is_ray(told[1]))
        return told

    def test_by_hand(self):
        wide = line(1, 1, 3)
        one = (1, 1)
        self.assertEqual(self.check([wide] + SQUARE, 0), ("idle", [(1, one), (2, one)]))
        self.assertEqual(self.check([SQUARE[0], wide, SQUARE[1]], 1), ("idle", [(0, one), (2, one)]))
        self.assertEqual(self.check(SQUARE + [wide], 2), ("idle", [(0, one), (1, one)]))
        self.assertEqual(self.check(SQUARE + [line(-1, 1, 3)], 2), ("idle", [(0, (-1, 1)), (1, one)]))
        self.assertEqual([self.check(CUT, k)[0] for k in range(3)], ["needed"] * 3)

    def test_one_that_only_touches(self):
        self.assertEqual(self.check(TOUCHED, 1), ("idle", [(0, (1, 1)), (2, (1, 1))]))
        little = fraction((1, 10 ** 80))
        self.assertEqual(self.check(SQUARE + [line(1, 1, 2 - little)], 2)[0], "needed")
        self.assertEqual(self.check(SQUARE + [line(1, 1, 2 + little)], 2)[0], "idle")

    def test_one_line_alone(self):
        for own in (line(1, 2, 3), line(-1, 0, 5), line(0, 1, 7)):
            told = self.check([own], 0)
            self.assertEqual(told[0], "needed")

    def test_by_one_line_alone(self):
        self.assertEqual(self.check([line(1, 2, 3), line(2, 4, 5)], 0), ("idle", [(1, (1, 2))]))
        self.assertEqual(self.check([line(1, 2, 3), line(2, 4, 5)], 1)[0], "needed")
        self.assertEqual(self.check([line(1, 2, 3), line(-2, -4, 7)], 1), ("idle", [(0, (-2, 1))]))
        self.assertEqual(self.check([line(1, 2, 3), line(1, 3, 3)], 1)[0], "needed")

    def test_a_line_twice(self):
        for lines in ([line(1, 2, 3)] * 2, [line(1, 2, 3), line(-2, -4, 6)], SQUARE * 2, SQUARE * 6):
            for k in range(len(lines)):
                self.assertEqual(self.check(lines, k)[0], "idle")

    def test_lines_along_one_another(self):
        self.assertEqual([self.check(ALONG, k)[0] for k in range(3)], ["idle", "needed", "idle"])
        self.assertEqual([self.check(LEVEL, k)[0] for k in range(2)], ["needed", "idle"])
        lines = ALONG + [line(1, 0, 1)]
        self.assertEqual([self.check(lines, k)[0] for k in range(4)], ["idle", "needed", "idle", "needed"])

    def test_as_told(self):
        words = set()
        for lines in many()[::2]:
            for k in range(len(lines)):
                told = self.check(lines, k)
                words.add(told[0])
                rays = slow_corners(others(lines, k))
                if rays is not None:
                    covered = slow_most(rays, lines[k][0], lines[k][1]) <= fraction(lines[k][2])
                    self.assertEqual(told[0], "idle" if covered else "needed")
        self.assertEqual(words, {"idle", "needed"})

    def test_just_one_of_both(self):
        # Where one is idle the judge lets no ray by that is to show it needed, were it a corner or beyond one.
        for lines in (SQUARE * 2, TOUCHED, around(6) + some_lines(5, 6, 2), around(5) + SQUARE):
            for k in range(len(lines)):
                rays = slow_corners(others(lines, k))
                beyond = [(of(fraction(y) * 2), of(fraction(u) * 2)) for y, u in rays]
                needed = any(idle_right(lines, k, ("needed", ray)) for ray in rays + beyond)
                self.assertEqual(self.check(lines, k)[0], "needed" if needed else "idle")
        self.assertEqual({self.check(around(12), k)[0] for k in range(12)}, {"needed"})

    def test_lines_of_benches_and_great_numbers(self):
        seeded = Seeded(1)
        for number in range(6):
            lines = lines_of(seeded.bench(12, 10 ** 60 - 1))
            for k in range(len(lines)):
                self.check(lines, k)
        for lines in (around(12, 300), some_lines(2, 12, 10 ** 300)):
            for k in (0, 5, 11):
                self.check(lines, k)

    def test_nothing_handed_in_is_changed_and_lists_are_the_askers_own(self):
        for start, k in ((TOUCHED, 1), (CUT, 1)):
            lines = copy.deepcopy(start)
            first = idle(lines, k)
            kept = copy.deepcopy(first)
            if first[0] == "idle":
                first[1].append((9, (9, 1)))
            self.assertEqual(idle(lines, k), kept)
            idle_right(lines, k, kept)
            self.assertEqual(idle(lines, k), kept)
            self.assertEqual(lines, start)


class IdleRight(unittest.TestCase):
    lines = [line(1, 0, 1), line(1, 1, 3), line(0, 1, 1), line(2, 2, 5)]

    def right(self, told, k=1, lines=None):
        lines = self.lines if lines is None else lines
        answer = idle_right(lines, k, told)
        self.assertIs(answer, slow_right(lines, k, told))
        return answer

    def test_as_it_stands(self):
        one = (1, 1)
        self.assertTrue(self.right(("idle", [(0, one), (2, one)])))
        self.assertTrue(self.right(("idle", ((0, one), (2, one)))))
        self.assertTrue(self.right(("idle", [(3, (1, 2))])))

    def test_one_place_turned(self):
        one, two = (1, 1), (2, 1)
        for shares in (
            [], [(0, one)], [(2, one)], [(2, one), (0, one)], [(0, two), (2, one)], [(0, one), (2, (-1, 1))],
            [(0, one), (3, one)], [(0, one), (-2, one)], [(-4, one), (2, one)], [(0, one), (4, one)], [(0, one), (0, one)],
            [(0, one), (2, one), (3, NOUGHT)], [(3, (1, 4)), (3, (1, 4))], [(-1, (1, 2))], [(3, (-1, 2))],
            [(2, NOUGHT), (3, (1, 2))], [(3, one)],
        ):
            self.assertFalse(self.right(("idle", shares)))

    def test_its_own_share(self):
        self.assertFalse(self.right(("idle", [(1, (1, 1))])))
        self.assertFalse(self.right(("idle", [(1, (1, 2)), (3, (1, 4))])))

    def test_three_shares(self):
        half = (1, 2)
        three = [(0, half), (2, half), (3, (1, 4))]
        self.assertEqual(slow_sums(self.lines, three)[:2], [1, 1])
        self.assertFalse(self.right(("idle", three)))

    def test_shares_that_add_to_more_than_r(self):
        tight = [line(1, 0, 1), line(1, 1, 2), line(0, 1, 1)]
        both = ("idle", [(0, (1, 1)), (2, (1, 1))])
        self.assertTrue(self.right(both, 1, tight))
        self.assertFalse(self.right(both, 1, [tight[0], line(1, 1, fraction((2, 1)) - fraction((1, 10 ** 60))), tight[2]]))
        self.assertTrue(self.right(both, 1, [tight[0], line(1, 1, fraction((2, 1)) + fraction((1, 10 ** 60))), tight[2]]))

    def test_a_ray_that_it_lets_by_too(self):
        for ray in (STILL, ((1, 2), (1, 2)), ((1, 1), (1, 2))):
            self.assertFalse(self.right(("needed", ray), 1, CUT))

    def test_a_ray_that_another_one_stops(self):
        for ray in (((2, 1), (1, 1)), ((1, 1), (2, 1)), ((-9, 1), (-9, 1))):
            self.assertFalse(self.right(("needed", ray), 1, CUT))

    def test_a_ray_that_it_alone_stops(self):
        for ray in (((1, 1), (1, 1)), ((-1, 1), (-1, 1)), ((1, 1), (2, 3))):
            self.assertTrue(self.right(("needed", ray), 1, CUT))
            self.assertFalse(self.right(("needed", ray), 0, CUT))
            self.assertFalse(self.right(("needed", ray), 2, CUT))
        self.assertTrue(self.right(("needed", ((9, 1), NOUGHT)), 0, [line(1, 0, 1)]))

    def test_other_words(self):
        ray, shares = ((1, 1), (1, 1)), [(0, (1, 1)), (2, (1, 1))]
        self.assertIs(idle_right(CUT, 1, ("needed", ray)), True)
        self.assertIs(idle_right(TOUCHED, 1, ("idle", shares)), True)
        for word in ("most", "free", "", "Needed"):
            self.assertIs(idle_right(CUT, 1, (word, ray)), False)
            self.assertIs(idle_right(CUT, 1, (word, ((0, 1), (0, 1)))), False)

    def test_any_papers(self):
        seeded = Seeded(4)
        choose = seeded.source.choice
        small = [NOUGHT, (1, 1), (-1, 1), (2, 1), (1, 2), (3, 2)]
        seen = set()
        for number in range(4000):
            lines = choose([self.lines, SQUARE * 2, CUT, ALONG, TOUCHED])
            k = choose(range(len(lines)))
            shares = [(choose(range(-2, 5)), choose(small)) for share in range(choose(range(4)))]
            if number % 3 == 0:
                shares = [(choose(range(len(lines))), choose(small))]
            told = choose([("idle", shares), ("needed", (choose(small), choose(small)))])
            seen.add((told[0], self.right(told, k, lines)))
        self.assertEqual(len(seen), 4)


if __name__ == "__main__":
    unittest.main()
