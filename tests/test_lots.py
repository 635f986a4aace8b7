import random
import unittest
from fractions import Fraction

from slopeyard.errors import BadCount, BadRow, BadState
from slopeyard.lots import Lot
from slopeyard.rows import plain_row
from tests.reckoning import (bars_rightly, box, can_be_kept, come_to, keeps, pair, random_rows, shows_rightly,
                             state_of, value)

BIG = 10 ** 20 - 1


class MakingTest(unittest.TestCase):
    def test_rows_are_plain_and_alike_ones_once(self):
        lot = Lot(2, [((2, 4), 6), ((1, 0), 3), ((3, 6), 9), ((1, 0), 3), ((1, 2), 4)])
        self.assertEqual(lot.rows(), [((1, 2), 3), ((1, 0), 3), ((1, 2), 4)])
        self.assertEqual(len(lot), 3)
        self.assertEqual(lot.count, 2)

    def test_noughts_alone(self):
        lot = Lot(1, [((0,), 0), ((0,), 5), ((0,), 9), ((0,), 1)])
        self.assertEqual(lot.rows(), [((0,), 0), ((0,), 1)])

    def test_texts(self):
        lot = Lot(2, [((2, -4), 6), ((1, 0), -3)])
        self.assertEqual(str(lot), "1 -2 <= 3; 1 0 <= -3")
        self.assertEqual(repr(lot), "Lot(2, 2 rows)")
        self.assertEqual(str(Lot(3)), "all")
        self.assertEqual(repr(Lot(3)), "Lot(3, 0 rows)")
        self.assertEqual(repr(Lot(3, [((0, 0, 2), 4)])), "Lot(3, 1 rows)")

    def test_text_of_a_row_beyond_twenty_figures(self):
        lot = Lot(1, [((1,), BIG * 10 + 1)])
        self.assertEqual(str(lot), f"1 <= {BIG * 10 + 1}")

    def test_by_name_and_without_rows(self):
        self.assertEqual(Lot(count=1, rows=[((1,), 2)]).rows(), [((1,), 2)])
        self.assertEqual(Lot(count=8).rows(), [])
        self.assertEqual(len(Lot(8)), 0)

    def test_counts(self):
        for count in (0, -1, 9, 100):
            self.assertRaises(BadCount, Lot, count)
            self.assertRaises(BadCount, Lot, count, [((1,), 2)])
        for count in range(1, 9):
            self.assertEqual(Lot(count, [((1,) * count, 0)]).count, count)

    def test_rows_of_another_count(self):
        self.assertRaises(BadRow, Lot, 2, [((1,), 2)])
        self.assertRaises(BadRow, Lot, 2, [((1, 1), 2), ((1, 1, 1), 2)])
        self.assertRaises(BadRow, Lot, 1, (((), 2),))

    def test_a_tuple_of_rows(self):
        self.assertEqual(Lot(1, (((2,), 4),)).rows(), [((1,), 2)])


class StatesTest(unittest.TestCase):
    def test_has_just_at_a_bound_and_beside(self):
        lot = Lot(2, [((1, 1), 1), ((-1, 0), 0)])
        self.assertIs(lot.has(((1, 2), (2, 4))), True)
        self.assertIs(lot.has(((1, 2), (501, 1000))), False)
        self.assertIs(lot.has(((0, 3), (1, 1))), True)
        self.assertIs(lot.has(((-1, 10 ** 19), (0, 1))), False)
        self.assertIs(Lot(1).has(((-BIG, 7),)), True)
        self.assertIs(Lot(1, [((0,), -1)]).has(((0, 1),)), False)
        self.assertIs(lot.has(state=((0, 1), (0, 1))), True)

    def test_states_of_another_count(self):
        for state in [(), ((1, 1),), ((1, 1), (1, 1), (1, 1))]:
            self.assertRaises(BadState, Lot(2).has, state)
            self.assertRaises(BadState, Lot(2, [((0, 0), -1)]).has, state)

    def test_a_told_state_is_one(self):
        source = random.Random(21)
        for _ in range(150):
            count = source.randint(1, 4)
            rows = random_rows(source, count, source.randint(0, 8))
            lot = Lot(count, rows)
            state = lot.state()
            if state is None:
                self.assertFalse(can_be_kept(rows, count))
                continue
            self.assertTrue(keeps(rows, state))
            self.assertEqual(state, tuple(pair(value(level)) for level in state))
            self.assertIs(lot.has(state), True)

    def test_lots_of_one_point(self):
        lot = Lot(2, [((3, 0), 1), ((-3, 0), -1), ((1, 2), 5), ((-1, -2), -5)])
        self.assertEqual(lot.state(), ((1, 3), (7, 3)))
        self.assertIs(lot.is_empty(), False)
        self.assertEqual(Lot(1, [((BIG,), 1), ((-BIG,), -1)]).state(), ((1, BIG),))

    def test_empty_only_by_the_sum_of_many_rows(self):
        for count in range(2, 9):
            rows = [(tuple(-int(place == level) for place in range(count)), 0) for level in range(count)]
            for bound, empty in [(-1, True), (0, False), (1, False)]:
                lot = Lot(count, rows + [((1,) * count, bound)])
                self.assertIs(lot.is_empty(), empty)
                if empty:
                    self.assertTrue(bars_rightly(lot.rows(), lot.bars(), count))
                    self.assertTrue(all(lot.bars()))
                    self.assertIsNone(lot.state())
                else:
                    self.assertIsNone(lot.bars())
                    self.assertTrue(keeps(lot.rows(), lot.state()))


class BarsTest(unittest.TestCase):
    def check(self, count, rows):
        lot = Lot(count, rows)
        weights = lot.bars()
        empty = not can_be_kept(rows, count)
        self.assertIs(lot.is_empty(), empty)
        self.assertEqual(weights is not None, empty)
        self.assertEqual(lot.state() is None, empty)
        if empty:
            self.assertIs(type(weights), list)
            self.assertTrue(bars_rightly(lot.rows(), weights, count))

    def test_small(self):
        self.check(1, [((1,), 0), ((-1,), -1)])
        self.check(1, [((1,), 0), ((-1,), 0)])
        self.check(1, [((0,), -1)])
        self.check(1, [((0,), 0)])
        self.check(1, [((0,), 1)])
        self.check(3, [])
        self.check(2, [((2, 2), 6), ((1, 1), 3), ((-3, -3), -10), ((0, 0), 4)])
        self.check(2, [((1, 1), 0), ((1, -1), 0), ((-1, 0), -1)])

    def test_random(self):
        source = random.Random(22)
        for _ in range(300):
            count = source.randint(1, 4)
            self.check(count, random_rows(source, count, source.randint(0, 9), source.choice([1, 2, 5])))

    def test_great_numbers(self):
        source = random.Random(23)
        for _ in range(60):
            count = source.randint(1, 3)
            self.check(count, random_rows(source, count, source.randint(2, 7), BIG // 3))

    def test_barely_empty_and_barely_not(self):
        self.check(2, [((BIG, -1), 0), ((-BIG, 1), -1)])
        self.check(2, [((BIG, 1 - BIG), 1), ((1 - BIG, BIG), -1), ((-1, -1), -1)])
        self.check(1, [((BIG,), BIG - 1), ((1 - BIG,), 2 - BIG)])
        self.check(1, [((BIG - 1,), BIG - 2), ((-BIG,), 1 - BIG)])


class ShowsTest(unittest.TestCase):
    def check(self, count, rows, row):
        lot = Lot(count, rows)
        paper = lot.shows(row)
        weights, bound = row
        beyond = [([-weight for weight in weights], -bound - Fraction(1, 10 ** 50))]
        shown = can_be_kept(rows, count) and not can_be_kept(rows + beyond, count)
        self.assertEqual(paper is not None, shown)
        if shown:
            many, its_weights = paper
            self.assertIs(type(paper), tuple)
            self.assertIs(type(many), int)
            self.assertIs(type(its_weights), list)
            self.assertTrue(shows_rightly(lot.rows(), row, paper, count))

    def test_small(self):
        rows = [((1, 0), 3), ((0, 2), 5), ((-1, -1), 0)]
        self.check(2, rows, ((1, 1), 5))
        self.check(2, rows, ((2, 2), 11))
        self.check(2, rows, ((2, 2), 10))
        self.check(2, rows, ((-1, 0), 100))
        self.check(2, rows, ((-2, -2), 0))
        self.check(2, rows, ((-2, 0), 5))
        self.check(2, rows, ((-2, 0), 4))

    def test_rows_of_noughts(self):
        for rows in ([], [((0, 0), 0)], [((1, 1), 3)], [((0, 0), 2), ((0, 0), 1)]):
            for bound in (-1, 0, 1):
                self.check(2, rows, ((0, 0), bound))

    def test_without_rows(self):
        self.assertEqual(Lot(2).shows(((0, 0), 0))[1], [])
        self.assertIsNone(Lot(2).shows(((0, 1), 10 ** 19)))

    def test_an_empty_lot_shows_nothing(self):
        lot = Lot(2, [((1, 0), 0), ((-1, 0), -1)])
        self.assertIsNone(lot.shows(((1, 0), 0)))
        self.assertIsNone(lot.shows(((0, 0), 5)))

    def test_its_own_rows(self):
        lot = Lot(3, random_rows(random.Random(4), 3, 0) + box(3, -2, 9))
        for row in lot.rows():
            self.assertTrue(shows_rightly(lot.rows(), row, lot.shows(row=row), 3))

    def test_random(self):
        source = random.Random(24)
        for _ in range(300):
            count = source.randint(1, 4)
            rows = random_rows(source, count, source.randint(0, 7), 3)
            self.check(count, rows, (tuple(source.randint(-3, 3) for _ in range(count)), source.randint(-4, 12)))

    def test_rows_of_another_count(self):
        for rows in ([], [((0, 0), -1)], [((1, 1), 1)]):
            self.assertRaises(BadRow, Lot(2, rows).shows, ((1,), 0))
            self.assertRaises(BadRow, Lot(2, rows).shows, ((1, 1, 1), 0))


class MostTest(unittest.TestCase):
    def check(self, count, rows, weights):
        lot = Lot(count, rows)
        for least in (False, True):
            sign = -1 if least else 1
            told = lot.most(weights, least=least)
            goal = tuple(sign * weight for weight in weights)
            if told is None:
                self.assertFalse(can_be_kept(rows, count) and self.is_bounded(count, rows, goal))
                continue
            greatest = sign * value(told)
            self.assertEqual(told, pair(value(told)))
            # A state reaches it ..
            reach = Lot(count, rows + [(tuple(-told[1] * weight for weight in goal), -sign * told[0])]).state()
            self.assertTrue(keeps(rows, reach))
            self.assertEqual(come_to(goal, reach), greatest)
            # .. and a paper shows that none goes beyond.
            row = (tuple(told[1] * weight for weight in goal), sign * told[0])
            self.assertTrue(shows_rightly(lot.rows(), row, lot.shows(row), count))

    def is_bounded(self, count, rows, goal):
        """Whether no way along which all rows may be gone without end lets the goal rise."""
        ways = [(weights, 0) for weights, _ in rows]
        return not can_be_kept(ways + [([-weight for weight in goal], -1)], count)

    def test_small(self):
        rows = [((1, 0), 3), ((0, 2), 5), ((-1, -1), 0)]
        lot = Lot(2, rows)
        self.assertEqual(lot.most((2, 2)), (11, 1))
        self.assertEqual(lot.most((1, 3)), (21, 2))
        self.assertEqual(lot.most((1, 0), least=True), (-5, 2))
        self.assertEqual(lot.most((1, 1), least=True), (0, 1))
        self.assertEqual(lot.most(weights=(0, 0)), (0, 1))
        self.assertEqual(lot.most((0, 0), least=True), (0, 1))

    def test_none_greatest(self):
        lot = Lot(2, [((1, 0), 3)])
        self.assertIsNone(lot.most((0, 1)))
        self.assertIsNone(lot.most((-1, 0)))
        self.assertIsNone(lot.most((1, 0), least=True))
        self.assertEqual(lot.most((1, 0)), (3, 1))
        self.assertEqual(lot.most((-1, 0), least=True), (-3, 1))
        self.assertIsNone(Lot(1).most((1,)))
        self.assertEqual(Lot(1).most((0,)), (0, 1))

    def test_an_empty_lot(self):
        lot = Lot(1, [((0,), -1)])
        for least in (False, True):
            self.assertIsNone(lot.most((0,), least=least))
            self.assertIsNone(lot.most((1,), least=least))

    def test_random(self):
        source = random.Random(25)
        for _ in range(150):
            count = source.randint(1, 3)
            rows = random_rows(source, count, source.randint(0, 7), 4)
            self.check(count, rows, tuple(source.randint(-3, 3) for _ in range(count)))

    def test_great_numbers(self):
        source = random.Random(26)
        for _ in range(30):
            rows = random_rows(source, 2, 6, BIG // 3)
            self.check(2, rows, (source.randint(-BIG, BIG), source.randint(-BIG, BIG)))

    def test_corners_of_a_box(self):
        lot = Lot(8, box(8, -2, 7))
        weights = (3, -1, 4, -1, 5, -9, 2, 6)
        up = sum(weight for weight in weights if weight > 0)
        down = -sum(weight for weight in weights if weight < 0)
        self.assertEqual(lot.most(weights), (7 * up + 2 * down, 1))
        self.assertEqual(lot.most(weights, least=True), (-2 * up - 7 * down, 1))

    def test_refusals(self):
        for rows in ([], [((0, 0), -1)]):
            self.assertRaises(BadRow, Lot(2, rows).most, (1,))
            self.assertRaises(BadRow, Lot(2, rows).most, (1, 1, 1), least=True)
        with self.assertRaises(TypeError):
            Lot(2).most((1, 1), True)


class SameStatesTest(unittest.TestCase):
    def test_equal_whatever_the_rows(self):
        one = Lot(2, box(2, 0, 1))
        other = Lot(2, box(2, 0, 1)[::-1] + [((1, 1), 2), ((0, 0), 0)])
        self.assertTrue(one == other)
        self.assertFalse(one != other)
        self.assertFalse(one == Lot(2, box(2, 0, 1) + [((2, 2), 3)]))
        self.assertFalse(one == Lot(2))
        self.assertTrue(Lot(2) == Lot(2, [((0, 0), 0), ((0, 0), 9)]))

    def test_all_empty_ones_of_a_count_are_equal(self):
        one = Lot(2, [((0, 0), -1)])
        other = Lot(2, [((1, 1), 0), ((-1, -1), -5), ((1, 0), 4)])
        self.assertTrue(one == other)
        self.assertFalse(one == Lot(1, [((0,), -1)]))
        self.assertFalse(one == Lot(2, [((0, 0), 0)]))

    def test_nothing_else_is_equal(self):
        lot = Lot(1, [((1,), 2)])
        for other in (None, 1, "1 <= 2", [((1,), 2)], (), {}):
            self.assertIs(lot == other, False)
            self.assertIs(lot != other, True)

    def test_of_another_count(self):
        self.assertFalse(Lot(1) == Lot(2))

    def test_within(self):
        small, great = Lot(2, box(2, 0, 1)), Lot(2, box(2, -1, 1))
        self.assertIs(small.within(great), True)
        self.assertIs(great.within(small), False)
        self.assertIs(small.within(other=small), True)
        self.assertIs(small.within(Lot(2)), True)
        self.assertIs(Lot(2).within(small), False)
        empty = Lot(2, [((0, 0), -1)])
        self.assertIs(empty.within(small), True)
        self.assertIs(empty.within(Lot(2, [((1, 0), 0), ((-1, 0), -1)])), True)
        self.assertIs(small.within(empty), False)

    def test_meet(self):
        one, other = Lot(2, [((1, 0), 1), ((0, 1), 1)]), Lot(2, [((-1, 0), 0), ((0, -1), 0)])
        self.assertTrue(one.meet(other) == Lot(2, box(2, 0, 1)))
        self.assertTrue(one.meet(other=Lot(2)) == one)
        self.assertTrue(one.meet(Lot(2, [((-1, 0), -2)])).is_empty())
        self.assertEqual(one.meet(other).count, 2)

    def test_refusals(self):
        for rows in ([], [((0, 0), -1)]):
            self.assertRaises(BadCount, Lot(2, rows).meet, Lot(1))
            self.assertRaises(BadCount, Lot(2, rows).within, Lot(3))
            self.assertRaises(BadCount, Lot(1).within, Lot(2, rows))

    def test_random(self):
        source = random.Random(27)
        for _ in range(150):
            count = source.randint(1, 3)
            rows = random_rows(source, count, source.randint(0, 5), 3)
            others = random_rows(source, count, source.randint(0, 2), 3) + rows[source.randint(0, 1):]
            one, other = Lot(count, rows), Lot(count, others)
            within = all(self.is_kept_by_all(count, rows, row) for row in others)
            without = all(self.is_kept_by_all(count, others, row) for row in rows)
            self.assertIs(one.within(other), within)
            self.assertIs(one == other, within and without)
            self.assertIs(other == one, within and without)
            both = one.meet(other)
            for _ in range(5):
                state = tuple((source.randint(-9, 9), source.randint(1, 3)) for _ in range(count))
                self.assertIs(both.has(state), keeps(rows + others, state))

    def is_kept_by_all(self, count, rows, row):
        weights, bound = row
        beyond = [([-weight for weight in weights], -bound - Fraction(1, 10 ** 9))]
        return not can_be_kept(rows + beyond, count)


class CopiesTest(unittest.TestCase):
    def test_what_is_handed_in_stays_and_is_not_kept(self):
        rows = [((2, 4), 6), ((-1, 0), 0)]
        lot = Lot(2, rows)
        self.assertEqual(rows, [((2, 4), 6), ((-1, 0), 0)])
        rows.append(((0, 0), -1))
        rows[0] = ((1, 1), -100)
        self.assertEqual(lot.rows(), [((1, 2), 3), ((-1, 0), 0)])
        self.assertIs(lot.is_empty(), False)

    def test_told_lists_are_new(self):
        lot = Lot(2, [((1, 0), 0), ((-1, 0), -1)])
        lot.rows().append("more")
        lot.bars()[0] = 77
        self.assertEqual(lot.rows(), [((1, 0), 0), ((-1, 0), -1)])
        self.assertTrue(bars_rightly(lot.rows(), lot.bars(), 2))
        full = Lot(2, box(2, 0, 1))
        paper = full.shows(((1, 1), 2))
        again = full.shows(((1, 1), 2))
        paper[1].append(5)
        self.assertEqual(full.shows(((1, 1), 2)), again)

    def test_asking_twice_tells_the_same_whatever_is_asked_between(self):
        source = random.Random(28)
        for _ in range(30):
            rows = random_rows(source, 3, 6, 4)
            lot = Lot(3, rows)
            asked = [self.all_told(lot) for _ in range(3)]
            self.assertEqual(asked[0], asked[1])
            self.assertEqual(asked[0], asked[2])
            self.assertEqual(asked[0], self.all_told(Lot(3, [plain_row(row) for row in rows])))

    def all_told(self, lot):
        return [lot.state(), lot.bars(), lot.rows(), lot.shows(((1, 1, 1), 9)), lot.most((1, -1, 2)),
                lot.most((1, -1, 2), least=True), lot.image([((1, 2, 0), 1)]).rows(), lot.shadow(1).rows(),
                lot.state(), lot.is_empty(), str(lot), repr(lot), len(lot), lot.within(Lot(3, [((1, 0, 0), 2)]))]

    def test_a_refusal_changes_nothing(self):
        lot = Lot(2, box(2, 0, 1))
        told = (lot.rows(), lot.state(), lot.most((1, 1)))
        self.assertRaises(BadRow, lot.most, (1,))
        self.assertRaises(BadRow, lot.shows, ((1,), 1))
        self.assertRaises(BadState, lot.has, ())
        self.assertRaises(BadCount, lot.meet, Lot(1))
        self.assertEqual(told, (lot.rows(), lot.state(), lot.most((1, 1))))

    def test_lots_made_apart(self):
        one, other = Lot(1, [((1,), 1)]), Lot(1, [((1,), 1)])
        both = one.meet(other)
        one.rows().clear()
        self.assertEqual(other.rows(), [((1,), 1)])
        self.assertEqual(both.rows(), [((1,), 1)])
        self.assertEqual(one.state(), other.state())
        self.assertEqual(state_of(0), state_of(0))


if __name__ == "__main__":
    unittest.main()
