import random
import unittest

from slopeyard.lots import Lot
from slopeyard.papers import added, bars_right, paper_right
from tests import reckoning
from tests.reckoning import random_rows

BIG = 10 ** 20 - 1
ROWS = [((1, 0), 3), ((0, 2), 5), ((-1, -1), 0)]


class AddedTest(unittest.TestCase):
    def test_ordinary(self):
        self.assertEqual(added(ROWS, [1, 0, 0]), ((1, 0), 3))
        self.assertEqual(added(ROWS, [2, 1, 2]), ((0, 0), 11))
        self.assertEqual(added([((3,), 7)], [5]), ((15,), 35))

    def test_not_brought_to_plain_form(self):
        self.assertEqual(added([((2, 4), 6)], [1]), ((2, 4), 6))
        self.assertEqual(added([((1, 2), 3)], [4]), ((4, 8), 12))
        self.assertEqual(added([((0, 0), 5), ((0, 0), 5)], [1, 1]), ((0, 0), 10))

    def test_noughts_alone(self):
        self.assertEqual(added(ROWS, [0, 0, 0]), ((0, 0), 0))
        self.assertEqual(added([((7, -7, 7), 7)], [0]), ((0, 0, 0), 0))

    def test_weights_below_nought_are_added_likewise(self):
        self.assertEqual(added(ROWS, [-1, 0, 2]), ((-3, -2), -3))

    def test_kinds_and_names(self):
        told = added(rows=tuple(ROWS), weights=(1, 1, 1))
        self.assertEqual(told, ((0, 1), 8))
        self.assertEqual([type(told), type(told[0]), type(told[1])], [tuple, tuple, int])

    def test_random(self):
        source = random.Random(41)
        for _ in range(300):
            count = source.randint(1, 8)
            most = source.choice([3, BIG, BIG ** 3])
            rows = random_rows(source, count, source.randint(1, 12), most)
            weights = [source.choice([0, source.randint(0, most)]) for _ in rows]
            self.assertEqual(added(rows, weights), reckoning.added(rows, weights, count))


class BarsRightTest(unittest.TestCase):
    def test_ordinary(self):
        rows = [((1, 0), 3), ((-2, 0), -7)]
        self.assertIs(bars_right(rows, [2, 1]), True)
        self.assertIs(bars_right(rows, [4, 2]), True)
        self.assertIs(bars_right(rows, [1, 1]), False)
        self.assertIs(bars_right(rows, [0, 0]), False)
        self.assertIs(bars_right(rows=tuple(rows), weights=(2, 1)), True)

    def test_a_sum_bound_of_nought_bars_nothing(self):
        self.assertIs(bars_right([((1,), 3), ((-1,), -3)], [1, 1]), False)
        self.assertIs(bars_right([((1,), 3), ((-1,), -4)], [1, 1]), True)
        self.assertIs(bars_right([((0,), 0)], [1]), False)
        self.assertIs(bars_right([((0,), -1)], [1]), True)

    def test_weights_left_over_bar_nothing(self):
        self.assertIs(bars_right([((1, 1), -5), ((-1, 0), -5)], [1, 1]), False)

    def test_weights_of_another_length(self):
        rows = [((0, 0), -1), ((0, 0), 0)]
        for weights in ([], [1], [1, 0, 0], [1, 1, 1, 1]):
            self.assertIs(bars_right(rows, weights), False)
        self.assertIs(bars_right(rows, [1, 0]), True)

    def test_weights_below_nought(self):
        self.assertIs(bars_right([((1, 0), 3), ((2, 0), 7)], [2, -1]), False)
        self.assertIs(bars_right([((0,), 5), ((0,), -9)], [-1, 1]), False)
        self.assertIs(bars_right([((0,), 5)], [-1]), False)

    def test_what_a_lot_tells(self):
        source = random.Random(42)
        empty = 0
        for _ in range(200):
            count = source.randint(1, 4)
            lot = Lot(count, random_rows(source, count, source.randint(2, 9), 4))
            weights = lot.bars()
            if weights is None:
                continue
            empty += 1
            rows = lot.rows()
            self.assertIs(bars_right(rows, weights), True)
            for place in range(len(weights)):
                other = list(weights)
                other[place] += source.choice([-1, 1])
                self.assertIs(bars_right(rows, other), reckoning.bars_rightly(rows, other, count))
        self.assertGreater(empty, 30)

    def test_great_numbers(self):
        rows = [((BIG, -1), 0), ((-BIG, 1), -1)]
        self.assertIs(bars_right(rows, [BIG ** 5, BIG ** 5]), True)
        self.assertIs(bars_right(rows, [BIG ** 5, BIG ** 5 + 1]), False)


class PaperRightTest(unittest.TestCase):
    def test_ordinary(self):
        self.assertIs(paper_right(ROWS, ((1, 0), 3), (1, [1, 0, 0])), True)
        self.assertIs(paper_right(ROWS, ((2, 2), 11), (1, [2, 1, 0])), True)
        self.assertIs(paper_right(ROWS, ((1, 1), 6), (2, [2, 1, 0])), True)
        self.assertIs(paper_right(rows=tuple(ROWS), row=((1, 1), 6), paper=(2, (2, 1, 0))), True)

    def test_bounds_just_and_beyond(self):
        self.assertIs(paper_right(ROWS, ((2, 2), 11), (1, [2, 1, 0])), True)
        self.assertIs(paper_right(ROWS, ((2, 2), 10), (1, [2, 1, 0])), False)
        self.assertIs(paper_right(ROWS, ((2, 2), 12), (1, [2, 1, 0])), True)
        self.assertIs(paper_right(ROWS, ((1, 1), 5), (2, [2, 1, 0])), False)

    def test_the_times_that_it_says(self):
        self.assertIs(paper_right(ROWS, ((2, 2), 11), (2, [4, 2, 0])), True)
        self.assertIs(paper_right(ROWS, ((2, 2), 11), (2, [2, 1, 0])), False)
        self.assertIs(paper_right(ROWS, ((2, 2), 11), (1, [4, 2, 0])), False)

    def test_times_below_one(self):
        self.assertIs(paper_right(ROWS, ((5, 5), 5), (0, [0, 0, 0])), False)
        self.assertIs(paper_right([((0,), 0)], ((0,), 0), (0, [1])), False)
        self.assertIs(paper_right([((0,), 0)], ((0,), 0), (1, [1])), True)
        self.assertIs(paper_right([((1,), -3)], ((-1,), 4), (-1, [1])), False)

    def test_weights_of_another_length(self):
        for weights in ([], [1], [1, 0], [1, 0, 0, 0]):
            self.assertIs(paper_right(ROWS, ((1, 0), 3), (1, weights)), False)

    def test_weights_below_nought(self):
        self.assertIs(paper_right(ROWS, ((-1, 0), 9), (1, [-1, 0, 0])), False)
        self.assertIs(paper_right(ROWS, ((1, -2), 9), (1, [1, -1, 0])), False)

    def test_other_weights(self):
        self.assertIs(paper_right(ROWS, ((1, 1), 3), (1, [1, 0, 0])), False)
        self.assertIs(paper_right(ROWS, ((0, 0), 3), (1, [1, 0, 0])), False)
        self.assertIs(paper_right(ROWS, ((1,), 3), (1, [1, 0, 0])), False)
        self.assertIs(paper_right(ROWS, ((1, 0, 0), 3), (1, [1, 0, 0])), False)

    def test_noughts(self):
        self.assertIs(paper_right(ROWS, ((0, 0), 0), (1, [0, 0, 0])), True)
        self.assertIs(paper_right(ROWS, ((0, 0), -1), (1, [0, 0, 0])), False)

    def test_what_a_lot_tells(self):
        source = random.Random(43)
        shown = 0
        for _ in range(300):
            count = source.randint(1, 4)
            lot = Lot(count, random_rows(source, count, source.randint(1, 7), 3))
            row = (tuple(source.randint(-3, 3) for _ in range(count)), source.randint(-2, 12))
            paper = lot.shows(row)
            if paper is None:
                continue
            shown += 1
            many, weights = paper
            rows = lot.rows()
            self.assertIs(paper_right(rows, row, paper), True)
            for other in [(many + 1, weights), (many - 1, weights), (many, [number + 1 for number in weights]),
                          (many, weights + [0]), (2 * many, [2 * number for number in weights])]:
                right = len(other[1]) == len(rows) and reckoning.shows_rightly(rows, row, other, count)
                self.assertIs(paper_right(rows, row, other), right)
        self.assertGreater(shown, 30)


class CopiesTest(unittest.TestCase):
    def test_what_is_handed_in_stays(self):
        rows, weights, paper = list(ROWS), [1, 2, 3], (2, [1, 2, 3])
        for _ in range(2):
            self.assertEqual(added(rows, weights), ((-2, 1), 13))
            self.assertIs(bars_right(rows, weights), False)
            self.assertIs(paper_right(rows, ((-1, 0), 9), paper), False)
        self.assertEqual((rows, weights, paper), (ROWS, [1, 2, 3], (2, [1, 2, 3])))


if __name__ == "__main__":
    unittest.main()
