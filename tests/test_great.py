"""Lots at the bounds of the document: eight levels, sixty rows, numbers of twenty figures, in any shape."""

import random
import unittest

from slopeyard.lots import Lot
from tests.reckoning import (bars_rightly, box, can_be_kept, come_to, keeps, pair, random_sums, set_by,
                             shows_rightly, value)

BIG = 10 ** 20 - 1
LEVELS = 8
ROWS = 60


def rows_around(source, state, most, many=ROWS):
    """Rows that the state of whole numbers keeps."""
    rows = []
    for _ in range(many):
        weights = tuple(source.randint(-most, most) for _ in range(LEVELS))
        reach = sum(weight * level for weight, level in zip(weights, state))
        rows.append((weights, reach + source.randint(0, LEVELS * most)))
    return rows


def barred_rows(source, most):
    """Rows of which nine are empty together, though any eight of them aren't, among others far off."""
    nine = [(tuple(source.randint(-most, most) for _ in range(LEVELS)), source.randint(-most, most))
            for _ in range(LEVELS)]
    last = tuple(-sum(weights[level] for weights, _ in nine) for level in range(LEVELS))
    nine.append((last, -1 - sum(bound for _, bound in nine)))
    rows = nine + rows_around(source, [0] * LEVELS, most, ROWS - 9)
    source.shuffle(rows)
    return rows


class GreatTest(unittest.TestCase):
    def check_told(self, rows, weights):
        lot = Lot(LEVELS, rows)
        if lot.is_empty():
            self.assertTrue(bars_rightly(lot.rows(), lot.bars(), LEVELS))
            self.assertIsNone(lot.state())
            return
        self.assertIsNone(lot.bars())
        self.assertTrue(keeps(rows, lot.state()))
        for least in (False, True):
            sign = -1 if least else 1
            told = lot.most(weights, least=least)
            if told is None:
                # There is a way without end along which the number rises.
                ways = [(row, 0) for row, _ in lot.rows()] + [(tuple(-sign * weight for weight in weights), -1)]
                self.assertTrue(keeps(ways, Lot(LEVELS, ways).state()))
                continue
            goal = tuple(sign * told[1] * weight for weight in weights)
            row = (goal, sign * told[0])
            self.assertTrue(shows_rightly(lot.rows(), row, lot.shows(row), LEVELS))
            self.assertIsNone(lot.shows((goal, sign * told[0] - 1)))
            reach = Lot(LEVELS, rows + [(tuple(-weight for weight in goal), -sign * told[0])]).state()
            self.assertTrue(keeps(rows, reach))
            self.assertEqual(come_to(weights, reach), value(told))

    def test_rows_around_a_state(self):
        source = random.Random(51)
        for most in (1, 9, 99, BIG):
            for many in (0, 5, 9, 30, ROWS):
                state = [source.randint(-most, most) for _ in range(LEVELS)]
                rows = rows_around(source, state, most, many)
                self.check_told(rows, tuple(source.randint(-most, most) for _ in range(LEVELS)))

    def test_empty_by_the_sum_of_nine(self):
        source = random.Random(52)
        for most in (2, 9, BIG // 10):
            for _ in range(5):
                lot = Lot(LEVELS, barred_rows(source, most))
                self.assertTrue(lot.is_empty())
                self.assertTrue(bars_rightly(lot.rows(), lot.bars(), LEVELS))

    def test_rows_that_meet_in_one_point(self):
        source = random.Random(53)
        for most in (1, 3, BIG):
            state = [source.randint(-9, 9) for _ in range(LEVELS)]
            rows = []
            for _ in range(ROWS):
                weights = tuple(source.randint(-most, most) for _ in range(LEVELS))
                rows.append((weights, sum(weight * level for weight, level in zip(weights, state))))
            self.check_told(rows, (1,) * LEVELS)
            lot = Lot(LEVELS, rows)
            self.assertIs(lot.has(tuple((level, 1) for level in state)), True)

    def test_flat_in_many_ways(self):
        source = random.Random(54)
        rows = []
        for _ in range(6):
            weights = tuple(source.randint(-3, 3) for _ in range(LEVELS))
            rows += [(weights, 2 * sum(weights)), (tuple(-weight for weight in weights), -2 * sum(weights))]
        self.check_told(rows + box(LEVELS, -5, 5), (1, 2, 3, 4, 5, 6, 7, 8))

    def test_shadows(self):
        source = random.Random(55)
        for most in (9, BIG):
            rows = rows_around(source, [1] * LEVELS, most)
            shadow = Lot(LEVELS, rows).shadow(3)
            inside = [(1, 1)] * (LEVELS - 1)
            for _ in range(30):
                weights = tuple(source.randint(-9, 9) for _ in range(LEVELS - 1))
                told = shadow.most(weights)
                if told is None:
                    continue
                reach = shadow.meet(Lot(LEVELS - 1, [(tuple(-told[1] * w for w in weights), -told[0])])).state()
                for part in (-1, 0, 1):
                    # From within to the border, and as much beyond it as is left to it.
                    state = tuple(pair(value(one) + (value(one) - value(other)) * part / 10 ** 9)
                                  for one, other in zip(reach, inside))
                    left = []
                    for row, bound in rows:
                        rest = come_to(row[:3] + row[4:], state)
                        left.append(((row[3],), bound - rest))
                    self.assertIs(shadow.has(state), can_be_kept(left, 1))

    def test_images_by_few_sums(self):
        source = random.Random(56)
        for most in (9, BIG):
            lot = Lot(LEVELS, rows_around(source, [2] * LEVELS, most))
            for many in (1, 2, 3):
                sums = random_sums(source, LEVELS, many, most)
                image = lot.image(sums)
                for _ in range(10):
                    weights = tuple(source.randint(-5, 5) for _ in range(many))
                    pull = tuple(sum(weight * row[level] for weight, (row, _) in zip(weights, sums))
                                 for level in range(LEVELS))
                    plus = sum(weight * more for weight, (_, more) in zip(weights, sums))
                    told, of_lot = image.most(weights), lot.most(pull)
                    self.assertEqual(told is None, of_lot is None)
                    if told is not None:
                        self.assertEqual(value(told), value(of_lot) + plus)
                self.assertIs(image.has(set_by(sums, lot.state())), True)
                for weights, bound in image.rows():
                    pull = tuple(sum(weight * row[level] for weight, (row, _) in zip(weights, sums))
                                 for level in range(LEVELS))
                    plus = sum(weight * more for weight, (_, more) in zip(weights, sums))
                    self.assertLessEqual(value(lot.most(pull)) + plus, bound)

    def test_one_question_after_another(self):
        source = random.Random(57)
        lot = Lot(LEVELS, rows_around(source, [0] * LEVELS, 99))
        other = Lot(LEVELS, lot.rows()[::-1] + [lot.rows()[5]])
        for _ in range(100):
            weights = tuple(source.randint(-99, 99) for _ in range(LEVELS))
            self.assertEqual(lot.most(weights), other.most(weights))
        for _ in range(20):
            self.assertTrue(lot == other)


if __name__ == "__main__":
    unittest.main()
