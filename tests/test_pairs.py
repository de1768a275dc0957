"""[4.2], and of [0.2] what it says of pairs."""

import copy
import itertools
import unittest

from roundglass.images import image
from roundglass.pairs import tables_by
from roundglass.tables import is_table
from things import Seeded, fraction, of

SELF = ((1, 1), (0, 1), (0, 1), (1, 1))


def negated(table):
    return tuple((-top, bottom) for top, bottom in table)


def in_order(table):
    first = [entry for entry in table if entry != (0, 1)][0]
    return (table, negated(table)) if first[0] > 0 else (negated(table), table)


def sharp(table, planes):
    return [(x, image(table, x)[0]) for x in planes]


def planes_of(seeded, table, bound):
    # Three unlike planes, among them those whose image or which themselves are far off.
    planes = [None, seeded.ratio(bound), seeded.ratio(bound), seeded.ratio(bound)]
    if table[2] != (0, 1):
        planes.append(of(-fraction(table[3]) / fraction(table[2])))
    planes = sorted(set(planes), key=repr)
    seeded.source.shuffle(planes)
    return planes[:3]


class TablesBy(unittest.TestCase):
    def test_by_hand(self):
        # By a glass of 1/2 these are sharp.
        glass = ((1, 1), (0, 1), (-1, 2), (1, 1))
        pairs = [((4, 1), (4, 1)), ((3, 1), (6, 1)), ((0, 1), (0, 1))]
        self.assertEqual(tables_by(pairs), (glass, negated(glass)))
        self.assertEqual(tables_by(tuple(pairs)), (glass, negated(glass)))
        far = [(None, (2, 1)), ((2, 1), None), ((4, 1), (4, 1))]
        self.assertEqual(tables_by(far), (glass, negated(glass)))

    def test_the_one_that_begins_above_0_first(self):
        quarter = ((0, 1), (1, 1), (-1, 1), (0, 1))
        pairs = sharp(quarter, [(1, 1), (2, 1), (3, 1)])
        self.assertEqual(tables_by(pairs), (quarter, negated(quarter)))
        self.assertEqual(tables_by(sharp(negated(quarter), [(1, 1), (2, 1), (3, 1)])), (quarter, negated(quarter)))
        below = ((-2, 1), (1, 1), (1, 1), (-1, 1))
        self.assertEqual(tables_by(sharp(below, [(0, 1), (2, 1), None])), (negated(below), below))

    def test_far_off_for_far_off(self):
        self.assertEqual(tables_by([(None, None), ((0, 1), (0, 1)), ((1, 1), (-1, 1))]), (SELF, negated(SELF)))
        gap = ((1, 1), (3, 1), (0, 1), (1, 1))
        self.assertEqual(tables_by([((0, 1), (-3, 1)), (None, None), ((1, 1), (-4, 1))]), (gap, negated(gap)))

    def test_in_any_order(self):
        seeded = Seeded(1)
        for number in range(150):
            table = seeded.table()
            pairs = sharp(table, planes_of(seeded, table, 9))
            for order in itertools.permutations(pairs):
                told = tables_by(list(order))
                self.assertEqual(told, in_order(table))
                self.assertIsInstance(told, tuple)
                self.assertTrue(all(is_table(one) for one in told))

    def test_where_none_is(self):
        for pairs in (
            # Height and image on one side with one enlargement: as a mirror does, no table.
            [((0, 1), (0, 1)), ((1, 1), (1, 1)), ((2, 1), (2, 1))],
            [((0, 1), (0, 1)), ((1, 1), (1, 1)), (None, None)],
            # Twice as far for each: a root of 2 is wanted.
            [((0, 1), (0, 1)), ((1, 1), (-2, 1)), ((2, 1), (-4, 1))],
            [((0, 1), (0, 1)), ((1, 1), (-1, 3)), (None, None)],
            [((0, 1), None), (None, (0, 1)), ((1, 1), (-1, 1))],
        ):
            for order in itertools.permutations(pairs):
                self.assertIsNone(tables_by(order))

    def test_a_square_by_a_square(self):
        told = tables_by([((0, 1), (0, 1)), ((1, 1), (-4, 9)), (None, None)])
        self.assertEqual(told, (((2, 3), (0, 1), (0, 1), (3, 2)), ((-2, 3), (0, 1), (0, 1), (-3, 2))))

    def test_just_where_one_is(self):
        # Of small planes all threes: what is told is sharp, and where None is told no small table fits.
        planes = [None, (0, 1), (1, 1), (-1, 1), (2, 1), (1, 2)]
        fit = {}
        span = [of(fraction((top, 1)) / bottom) for top in range(-4, 5) for bottom in (1, 2)]
        for a, b, c, d in itertools.product(sorted(set(span)), repeat=4):
            if is_table((a, b, c, d)):
                fit.setdefault(tuple(image((a, b, c, d), x)[0] for x in planes[:3]), (a, b, c, d))
        none = 0
        for images in itertools.permutations(planes, 3):
            pairs = list(zip(planes[:3], images))
            told = tables_by(pairs)
            if told is None:
                none += 1
                self.assertNotIn(images, fit)
            else:
                self.assertEqual(told[1], negated(told[0]))
                for table in told:
                    self.assertTrue(is_table(table))
                    self.assertEqual(sharp(table, planes[:3]), pairs)
        self.assertGreater(none, 0)
        self.assertLess(none, 120)

    def test_of_24_figures(self):
        seeded = Seeded(2)
        wide = 10 ** 24 - 1
        for number in range(20):
            # Entries of eleven figures and planes of twelve lead to images of at most 24.
            a, b = seeded.whole(10 ** 5), seeded.whole(10 ** 5)
            table = ((1, 1), (a, 1), (b, 1), (a * b + 1, 1))
            pairs = sharp(table, [seeded.ratio(10 ** 12), None, seeded.ratio(10 ** 12)])
            self.assertEqual(tables_by(pairs), in_order(table))
            pairs = [(seeded.ratio(wide), seeded.ratio(wide)) for pair in range(3)]
            told = tables_by(pairs)
            if told is not None:
                self.assertEqual(sharp(told[0], [pair[0] for pair in pairs]), pairs)

    def test_a_great_square(self):
        share = (10 ** 12 - 11, 10 ** 11 + 3)
        square = (share[0] ** 2, share[1] ** 2)
        told = tables_by([((0, 1), (0, 1)), ((1, 1), (-square[0], square[1])), (None, None)])
        self.assertEqual(told[0], (share, (0, 1), (0, 1), (share[1], share[0])))
        self.assertIsNone(tables_by([((0, 1), (0, 1)), ((1, 1), (-square[0] - 1, square[1])), (None, None)]))

    def test_nothing_handed_in_is_changed(self):
        pairs = [((4, 1), (4, 1)), ((3, 1), (6, 1)), ((0, 1), (0, 1))]
        kept = copy.deepcopy(pairs)
        first = tables_by(pairs)
        self.assertEqual(pairs, kept)
        self.assertEqual(tables_by(pairs), first)


if __name__ == "__main__":
    unittest.main()
