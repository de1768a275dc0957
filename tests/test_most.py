"""[5.3], of [0.4] that what the judge lets by is so, and of [0.2] what it says of both."""

import copy
import unittest

from roundglass.lines import lines_of
from roundglass.most import most, most_right
from roundglass.ratios import is_ratio
from roundglass.tables import is_ray
from shapes import (
    ALONG, CUT, LEVEL, SQUARE, TOUCHED, all_along, around, fit_shares, line, many, numbers_of, slow_corners,
    slow_lets, slow_most, slow_sums, some_lines,
)
from things import Seeded, fraction, of

NOUGHT = (0, 1)
STILL = (NOUGHT, NOUGHT)


def value_of(p, q, ray):
    return numbers_of([(p, q, (1, 1))], ray)[0]


def slow_right(lines, p, q, told):
    if told[0] == "free":
        return value_of(p, q, told[1]) > 0 and all(number == 0 for number in numbers_of(lines, told[1]))
    word, value, ray, shares = told
    if not slow_lets(lines, ray) or value_of(p, q, ray) != fraction(value) or not fit_shares(lines, shares):
        return False
    return slow_sums(lines, shares) == [fraction(p), fraction(q), fraction(value)]


def along(lines, p, q):
    return all_along(list(lines) + [(p, q, (1, 1))])


def some_wanted(lines, seed):
    seeded = Seeded(seed)
    wanted = [seeded.ray(3) for number in range(4)] + [((1, 1), NOUGHT), (NOUGHT, (-1, 1)), STILL]
    for own in lines[:3]:
        wanted += [(own[0], own[1]), (of(fraction(own[0]) * -2), of(fraction(own[1]) * -2))]
    if len(lines) > 1:
        wanted.append((of(fraction(lines[0][0]) + fraction(lines[1][0])), of(fraction(lines[0][1]) + fraction(lines[1][1]))))
    return wanted


class Most(unittest.TestCase):
    def check(self, lines, p, q):
        told = most(lines, p, q)
        self.assertTrue(slow_right(lines, p, q, told), (lines, p, q, told))
        self.assertIs(most_right(lines, p, q, told), True)
        self.assertEqual(most(tuple(lines), p, q), told)
        self.assertIs(most_right(tuple(lines), p, q, told), True)
        self.assertIsInstance(told, tuple)
        if told[0] == "free":
            self.assertEqual(len(told), 2)
            self.assertTrue(is_ray(told[1]))
            return told
        self.assertEqual((told[0], len(told)), ("most", 4))
        self.assertTrue(is_ratio(told[1]) and is_ray(told[2]))
        self.assertIsInstance(told[3], list)
        self.assertTrue(all(isinstance(pair, tuple) and is_ratio(pair[1]) for pair in told[3]))
        return told

    def test_by_hand(self):
        told = self.check(SQUARE, (2, 1), (-3, 1))
        self.assertEqual(told, ("most", (5, 1), ((1, 1), (-1, 1)), [(0, (2, 1)), (1, (-3, 1))]))
        told = self.check(CUT, (3, 1), (1, 1))
        self.assertEqual(told, ("most", (7, 2), ((1, 1), (1, 2)), [(0, (2, 1)), (1, (1, 2))]))

    def test_of_one_line(self):
        told = self.check(CUT, (2, 1), (2, 1))
        self.assertEqual((told[1], told[3]), ((3, 1), [(1, (1, 1))]))
        told = self.check(CUT, (-4, 1), (-4, 1))
        self.assertEqual((told[1], told[3]), ((6, 1), [(1, (-2, 1))]))
        told = self.check(CUT, NOUGHT, (1, 2))
        self.assertEqual((told[1], told[3]), ((1, 2), [(2, (1, 2))]))

    def test_of_a_line_that_others_cover(self):
        told = self.check([line(1, 1, 9)] + SQUARE, (1, 1), (1, 1))
        self.assertEqual((told[1], told[3]), ((2, 1), [(1, (1, 1)), (2, (1, 1))]))

    def test_of_two_together(self):
        told = self.check(CUT, (3, 1), (2, 1))
        self.assertEqual((told[1], told[3]), ((4, 1), [(0, (1, 1)), (1, (1, 1))]))
        told = self.check(CUT, (-2, 1), (-3, 1))
        self.assertEqual((told[1], told[3]), ((4, 1), [(1, (-1, 1)), (2, (-1, 1))]))

    def test_both_nought(self):
        for lines in ([], (), SQUARE, ALONG, CUT, around(12)):
            told = self.check(list(lines), NOUGHT, NOUGHT)
            self.assertEqual((told[0], told[1], told[3]), ("most", NOUGHT, []))

    def test_by_no_lines(self):
        for p, q in (((1, 1), NOUGHT), (NOUGHT, (-1, 2)), ((-3, 7), (5, 1))):
            self.assertEqual(self.check([], p, q)[0], "free")

    def test_lines_all_along_one_another(self):
        for lines, p, q, value, number in (
            (ALONG, (1, 1), (2, 1), (3, 2), 1), (ALONG, (-1, 2), (-1, 1), (3, 4), 1), (ALONG[:1], (1, 1), (2, 1), (3, 1), 0),
            (LEVEL, NOUGHT, (1, 1), (3, 2), 0), (LEVEL[::-1], NOUGHT, (-4, 1), (6, 1), 1),
            ([line(-2, 0, 3)], (1, 1), NOUGHT, (3, 2), 0),
        ):
            told = self.check(lines, p, q)
            self.assertEqual((told[0], told[1]), ("most", value))
            self.assertEqual([pair[0] for pair in told[3]], [number])
        for lines in (ALONG, LEVEL, ALONG[:1], [line(-2, 0, 3)]):
            for p, q in (((1, 1), (1, 1)), ((-1, 1), (1, 1)), ((1, 1), (-1, 1)), ((-1, 1), (-1, 1)), ((2, 1), (-1, 1))):
                self.assertEqual(self.check(lines, p, q)[0], "free")

    def test_as_told(self):
        words, shares = set(), set()
        for seed, lines in enumerate(many()):
            rays = slow_corners(lines)
            for p, q in some_wanted(lines, seed):
                told = self.check(lines, p, q)
                words.add(told[0])
                if told[0] == "most":
                    shares.add(len(told[3]))
                    if rays is not None:
                        self.assertEqual(fraction(told[1]), slow_most(rays, p, q))
                else:
                    self.assertTrue(all_along(lines) and (not lines or not along(lines, p, q)))
        self.assertEqual((words, shares), ({"most", "free"}, {0, 1, 2}))

    def test_lines_of_benches_and_great_numbers(self):
        seeded = Seeded(1)
        for number in range(6):
            self.check(lines_of(seeded.bench(12, 10 ** 60 - 1)), seeded.ratio(10 ** 60), seeded.ratio(10 ** 60))
        for lines in (around(12, 300), some_lines(2, 12, 10 ** 300)):
            self.check(lines, seeded.ratio(10 ** 300), seeded.ratio(10 ** 300))

    def test_nothing_handed_in_is_changed_and_lists_are_the_askers_own(self):
        for p, q in (((3, 1), (2, 1)), STILL):
            lines = copy.deepcopy(CUT)
            first = most(lines, p, q)
            kept = copy.deepcopy(first)
            first[3].append((9, (9, 1)))
            self.assertEqual(most(lines, p, q), kept)
            most_right(lines, p, q, first)
            self.assertEqual(first[3][:-1], kept[3])
            self.assertEqual(lines, CUT)


class MostRight(unittest.TestCase):
    lines = CUT
    p, q = (3, 1), (2, 1)
    value, ray, shares = (4, 1), ((1, 1), (1, 2)), [(0, (1, 1)), (1, (1, 1))]

    def right(self, value=value, ray=ray, shares=shares):
        told = most_right(self.lines, self.p, self.q, ("most", value, ray, shares))
        self.assertIn(told, (True, False))
        self.assertIs(told, slow_right(self.lines, self.p, self.q, ("most", value, ray, shares)))
        return told

    def test_as_it_stands(self):
        self.assertTrue(self.right())
        self.assertTrue(self.right(shares=tuple(self.shares)))

    def test_another_value(self):
        for value in ((5, 1), (3, 1), (-4, 1), NOUGHT, (4 * 10 ** 60 + 1, 10 ** 60)):
            self.assertFalse(self.right(value=value))

    def test_another_ray(self):
        # The first two have the value but are stopped; the last ones are let by but have another value.
        for ray in (((2, 1), (-1, 1)), ((0, 1), (2, 1)), ((1, 1), (1, 1)), STILL, ((1, 1), (-1, 1)), ((-1, 1), (-1, 2))):
            self.assertFalse(self.right(ray=ray))

    def test_a_ray_that_is_stopped_elsewhere(self):
        lines = SQUARE[:1] + [line(0, 1, 9)]
        shares = [(0, (1, 1))]
        self.assertIs(most_right(lines, (1, 1), NOUGHT, ("most", (1, 1), ((1, 1), (9, 1)), shares)), True)
        self.assertIs(most_right(lines, (1, 1), NOUGHT, ("most", (1, 1), ((1, 1), (-9, 1)), shares)), True)
        self.assertIs(most_right(lines, (1, 1), NOUGHT, ("most", (1, 1), ((1, 1), (10, 1)), shares)), False)

    def test_another_share(self):
        for share in ((2, 1), (-1, 1), NOUGHT, (1, 2)):
            self.assertFalse(self.right(shares=[(0, share), (1, (1, 1))]))
            self.assertFalse(self.right(shares=[(0, (1, 1)), (1, share)]))

    def test_another_number(self):
        one = (1, 1)
        for number in (1, 2, 3, 4, -1, -3, -2, 10 ** 30):
            self.assertFalse(self.right(shares=[(number, one), (1, one)]))
        for number in (0, 2, 3, -1, -2, 10 ** 30, -(10 ** 30)):
            self.assertFalse(self.right(shares=[(0, one), (number, one)]))

    def test_numbers_below_0_are_no_lines(self):
        lines = [line(1, 0, 1), line(0, 1, 1)]
        told = ("most", (1, 1), ((1, 1), NOUGHT), [(0, (1, 1))])
        self.assertIs(most_right(lines, (1, 1), NOUGHT, told), True)
        self.assertIs(most_right(lines, (1, 1), NOUGHT, told[:3] + ([(-2, (1, 1))],)), False)
        both = ("most", (2, 1), ((1, 1), (1, 1)), [(-2, (1, 1)), (1, (1, 1))])
        self.assertIs(most_right(lines, (1, 1), (1, 1), both), False)
        self.assertIs(most_right(lines, (1, 1), (1, 1), both[:3] + ([(0, (1, 1)), (1, (1, 1))],)), True)

    def test_the_same_number_twice(self):
        lines = SQUARE
        halves = [(0, (1, 2)), (0, (1, 2))]
        self.assertIs(most_right(lines, (1, 1), NOUGHT, ("most", (1, 1), ((1, 1), NOUGHT), halves)), False)

    def test_one_share_more_or_less_or_another_order(self):
        one = (1, 1)
        self.assertFalse(self.right(shares=[]))
        self.assertFalse(self.right(shares=[(0, one)]))
        self.assertFalse(self.right(shares=[(1, one)]))
        self.assertFalse(self.right(shares=[(1, one), (0, one)]))
        self.assertFalse(self.right(shares=[(0, one), (1, one), (2, NOUGHT)]))
        self.assertFalse(self.right(shares=[(0, one), (1, one), (2, one)]))
        # Three that add up as they should show nothing.
        three = [(0, one), (1, one), (2, one)]
        for lines, more in ((TOUCHED, three), ([line(1, 0, 1)] * 3, [(k, (1, 3)) for k in range(3)])):
            sums = [of(part) for part in slow_sums(lines, more)]
            told = ("most", sums[2], ((1, 1), (1, 1)), more)
            self.assertEqual(fraction(sums[2]), value_of(sums[0], sums[1], told[2]))
            self.assertIs(most_right(lines, sums[0], sums[1], told), False)
        # A share of nought beside those that add up.
        told = ("most", (1, 1), ((1, 1), NOUGHT), [(0, (1, 1)), (1, NOUGHT)])
        self.assertIs(most_right(SQUARE, (1, 1), NOUGHT, told), False)
        self.assertIs(most_right(SQUARE, (1, 1), NOUGHT, told[:3] + ([(0, (1, 1))],)), True)

    def test_shares_that_add_to_more(self):
        # p and q add up, and r does, but the ray's value is less: nothing of it is let by as told.
        told = ("most", (2, 1), ((1, 1), (1, 1)), [(0, (1, 1)), (1, (1, 1))])
        self.assertIs(most_right([line(1, 1, 3), line(0, 1, 1)], (1, 1), (2, 1), told), False)
        shares = [(0, (1, 1))]
        self.assertIs(most_right([line(1, 1, 3)] + SQUARE, (1, 1), (1, 1), ("most", (3, 1), STILL, shares)), False)
        self.assertIs(most_right([line(1, 1, 3)] + SQUARE, (1, 1), (1, 1), ("most", (2, 1), ((1, 1), (1, 1)), shares)), False)

    def test_of_nought(self):
        for lines in ([], SQUARE, ALONG):
            for ray in (STILL, ((1, 9), (-1, 9))):
                self.assertIs(most_right(lines, NOUGHT, NOUGHT, ("most", NOUGHT, ray, [])), True)
                self.assertIs(most_right(lines, NOUGHT, NOUGHT, ("most", NOUGHT, ray, ())), True)
                self.assertIs(most_right(lines, NOUGHT, NOUGHT, ("most", (1, 1), ray, [])), False)
                self.assertIs(most_right(lines, NOUGHT, NOUGHT, ("free", ray)), False)
        self.assertIs(most_right(SQUARE, NOUGHT, NOUGHT, ("most", NOUGHT, ((2, 1), NOUGHT), [])), False)

    def test_free(self):
        one, two = (1, 1), (2, 1)
        for lines, p, q, ray, told in (
            ([], one, NOUGHT, (one, two), True), ([], one, NOUGHT, (NOUGHT, two), False),
            ([], one, NOUGHT, ((-1, 1), two), False), (ALONG, one, one, (two, (-1, 1)), True),
            (ALONG, one, one, ((-2, 1), one), False), (ALONG, one, two, (two, (-1, 1)), False),
            (ALONG, one, one, (two, NOUGHT), False), (ALONG, one, one, STILL, False),
            (SQUARE, one, one, (one, one), False), (SQUARE, one, one, (one, NOUGHT), False),
            (ALONG + [line(1, 0, 1)], one, one, (two, (-1, 1)), False),
            ([line(1, 0, 1)] + ALONG, one, one, (two, (-1, 1)), False),
        ):
            self.assertIs(most_right(lines, p, q, ("free", ray)), told)
            self.assertIs(slow_right(lines, p, q, ("free", ray)), told)

    def test_other_words(self):
        for word in ("free", "needed", "idle", "", "Most"):
            self.assertIs(most_right(self.lines, self.p, self.q, (word, self.value, self.ray, self.shares)), False)
        for word in ("most", "needed", "idle", "", "Free"):
            self.assertIs(most_right([], self.p, self.q, (word, self.ray)), False)
        self.assertIs(most_right([], self.p, self.q, ("free", self.ray)), True)

    def test_any_papers(self):
        seeded = Seeded(3)
        choose = seeded.source.choice
        small = [NOUGHT, (1, 1), (-1, 1), (2, 1), (1, 2), (3, 2)]
        seen = set()
        for number in range(4000):
            lines = choose([SQUARE, CUT, ALONG, TOUCHED, SQUARE * 2, []])
            p, q, ray = choose(small), choose(small), (choose(small), choose(small))
            shares = [(choose(range(-2, 4)), choose(small)) for share in range(choose(range(4)))]
            told = choose([("most", choose(small), ray, shares), ("free", ray)])
            if number % 3 == 0 and lines:
                told = ("most", of(value_of(p, q, ray)), ray, [(0, choose(small))])
            right = most_right(lines, p, q, told)
            self.assertIs(right, slow_right(lines, p, q, told))
            seen.add((told[0], right))
        self.assertEqual(len(seen), 4)

    def test_one_place_turned_of_what_is_told(self):
        for seed, lines in enumerate(many()):
            for p, q in some_wanted(lines, seed)[:3]:
                told = most(lines, p, q)
                papers = [("free", STILL), ("free", (p, q)), ("most", (1, 1), STILL, [])]
                if told[0] == "most":
                    word, value, ray, shares = told
                    papers += [(word, of(fraction(value) + 1), ray, shares), (word, value, (ray[0], of(fraction(ray[1]) + 1)), shares)]
                    papers += [(word, value, ray, shares[1:]), (word, value, ray, shares[::-1])]
                    papers += [(word, value, ray, [(k + 1, share) for k, share in shares])]
                    papers += [(word, value, ray, [(k, of(-fraction(share))) for k, share in shares])]
                for paper in papers:
                    self.assertIs(most_right(lines, p, q, paper), slow_right(lines, p, q, paper))


if __name__ == "__main__":
    unittest.main()
