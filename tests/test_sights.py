"""Shadows, images and sources of lots."""

import random
import unittest
from fractions import Fraction

from slopeyard.errors import BadCount, BadSums, NoLevel
from slopeyard.lots import Lot
from tests.reckoning import (box, can_be_kept, is_set, keeps, left_out, pair, random_rows, random_sums, set_by, units,
                             value)

BIG = 10 ** 20 - 1


def some_state(source, count):
    return tuple((source.randint(-12, 12), source.randint(1, 4)) for _ in range(count))


def near(source, state):
    """States at and a little beside this one."""
    yield state
    for _ in range(4):
        yield tuple(pair(value(level) + Fraction(source.randint(-2, 2), 10 ** 6)) for level in state)


def borders(source, lot):
    """States of a lot that lie on its border, as far as it can be found by asking."""
    for _ in range(3):
        weights = tuple(source.randint(-3, 3) for _ in range(lot.count))
        most = lot.most(weights)
        if most is not None:
            rows = [(tuple(-most[1] * weight for weight in weights), -most[0])]
            state = lot.meet(Lot(lot.count, rows)).state()
            yield from near(source, state)


class SightsTest(unittest.TestCase):
    def check_image(self, source, count, rows, sums, image):
        self.assertEqual(image.count, len(sums))
        self.assertIs(image.is_empty(), not can_be_kept(rows, count))
        tried = list(borders(source, image)) + [some_state(source, len(sums)) for _ in range(3)]
        for state in tried:
            self.assertIs(image.has(state), is_set(rows, sums, state, count))


class ShadowTest(SightsTest):
    def test_a_triangle(self):
        lot = Lot(2, [((-1, 0), 0), ((0, -1), 0), ((1, 2), 4)])
        self.assertTrue(lot.shadow(0) == Lot(1, [((-1,), 0), ((1,), 2)]))
        self.assertTrue(lot.shadow(level=1) == Lot(1, [((-1,), 0), ((1,), 4)]))

    def test_the_other_levels_keep_their_order(self):
        lot = Lot(3, [((1, 0, 0), 1), ((0, 1, 0), 2), ((0, 0, 1), 3)])
        self.assertTrue(lot.shadow(0) == Lot(2, [((1, 0), 2), ((0, 1), 3)]))
        self.assertTrue(lot.shadow(1) == Lot(2, [((1, 0), 1), ((0, 1), 3)]))
        self.assertTrue(lot.shadow(2) == Lot(2, [((1, 0), 1), ((0, 1), 2)]))

    def test_empty_and_full(self):
        empty = Lot(2, [((1, 1), 0), ((-1, -1), -1)])
        self.assertTrue(empty.shadow(0).is_empty())
        self.assertEqual(empty.shadow(0).count, 1)
        self.assertTrue(Lot(2).shadow(1) == Lot(1))
        self.assertTrue(Lot(2, [((1, 1), 0)]).shadow(1) == Lot(1))

    def test_refusals(self):
        for level in (-1, 2, 3):
            self.assertRaises(NoLevel, Lot(2).shadow, level)
        self.assertRaises(NoLevel, Lot(1).shadow, 1)
        self.assertRaises(NoLevel, Lot(1).shadow, -1)
        self.assertRaises(BadCount, Lot(1).shadow, 0)
        self.assertRaises(BadCount, Lot(1, [((0,), -1)]).shadow, 0)

    def test_random(self):
        source = random.Random(31)
        for _ in range(120):
            count = source.randint(2, 4)
            rows = random_rows(source, count, source.randint(0, 8), source.choice([2, 5]))
            level = source.randint(0, count - 1)
            shadow = Lot(count, rows).shadow(level)
            sums = units(count, [place for place in range(count) if place != level])
            self.check_image(source, count, rows, sums, shadow)

    def test_great_numbers(self):
        source = random.Random(32)
        for _ in range(20):
            rows = random_rows(source, 3, 6, BIG // 3)
            self.check_image(source, 3, rows, units(3, [0, 2]), Lot(3, rows).shadow(1))

    def test_many_rows_and_levels(self):
        source = random.Random(33)
        for count, many in [(5, 30), (8, 20), (8, 60)]:
            rows = [(tuple(source.randint(-9, 9) for _ in range(count)), source.randint(1, 40)) for _ in range(many)]
            shadow = Lot(count, rows).shadow(count - 1)
            self.assertFalse(shadow.is_empty())
            for state in list(borders(source, shadow)):
                # Only the level that was left out is free, so that its bounds tell.
                left = [((weights[-1],), bound - sum(weight * value(level) for weight, level in zip(weights, state)))
                        for weights, bound in rows]
                self.assertIs(shadow.has(state), can_be_kept(left, 1))

    def test_one_by_one_down_to_one_level(self):
        source = random.Random(34)
        rows = [(tuple(source.randint(-5, 5) for _ in range(5)), source.randint(0, 20)) for _ in range(7)]
        lot, by_hand = Lot(5, rows), rows
        while lot.count > 1:
            by_hand = left_out(by_hand, 5 - lot.count)
            lot = lot.shadow(0)
            shown = [weights[5 - lot.count:] for weights, _ in by_hand]
            for state in list(borders(source, lot)):
                kept = keeps(list(zip(shown, [bound for _, bound in by_hand])), state)
                self.assertIs(lot.has(state), kept)


class ImageTest(SightsTest):
    def test_ordinary(self):
        lot = Lot(2, box(2, 0, 1))
        image = lot.image([((1, 1), 3), ((1, -1), 0)])
        self.assertTrue(image == Lot(2, [((1, 1), 5), ((-1, -1), -3), ((1, -1), 5), ((-1, 1), -3)]))
        self.assertTrue(lot.image(sums=[((2, 3), -1)]) == Lot(1, [((1,), 4), ((-1,), 1)]))

    def test_sums_without_weights_in_them(self):
        lot = Lot(2, box(2, 0, 1))
        self.assertTrue(lot.image([((0, 0), 7)]) == Lot(1, [((1,), 7), ((-1,), -7)]))
        self.assertTrue(Lot(1).image([((0,), 0), ((1,), 2)]) == Lot(2, [((1, 0), 0), ((-1, 0), 0)]))

    def test_more_sums_than_levels(self):
        image = Lot(1, [((1,), 2)]).image([((1,), 0), ((2,), 1), ((0,), 5)])
        want = [((2, -1, 0), -1), ((-2, 1, 0), 1), ((0, 0, 1), 5), ((0, 0, -1), -5), ((1, 0, 0), 2)]
        self.assertTrue(image == Lot(3, want))

    def test_of_an_empty_lot(self):
        image = Lot(2, [((0, 0), -1)]).image([((1, 1), 0)] * 8)
        self.assertTrue(image.is_empty())
        self.assertEqual(image.count, 8)

    def test_refusals(self):
        for rows in ([], [((0, 0), -1)]):
            lot = Lot(2, rows)
            for sums in ([], [((1, 1), 0)] * 9, [((1,), 0)], [((1, 1), 0), ((1, 1, 1), 0)], [((), 0)]):
                self.assertRaises(BadSums, lot.image, sums)

    def test_random(self):
        source = random.Random(35)
        for _ in range(150):
            count = source.randint(1, 4)
            rows = random_rows(source, count, source.randint(0, 7), source.choice([2, 5]))
            sums = random_sums(source, count, source.randint(1, 4), 2)
            self.check_image(source, count, rows, sums, Lot(count, rows).image(sums))

    def test_great_numbers(self):
        source = random.Random(36)
        for _ in range(15):
            rows = random_rows(source, 3, 5, BIG // 3)
            sums = random_sums(source, 3, 2, BIG)
            self.check_image(source, 3, rows, sums, Lot(3, rows).image(sums))

    def test_flat_lots(self):
        source = random.Random(37)
        for _ in range(80):
            count = source.randint(2, 4)
            tie = tuple(source.randint(-5, 5) for _ in range(count))
            rows = box(count, -2, 3) + [(tie, 1), (tuple(-weight for weight in tie), -1)]
            sums = random_sums(source, count, source.randint(1, 3), 2)
            self.check_image(source, count, rows, sums, Lot(count, rows).image(sums))

    def test_a_box_of_eight_levels(self):
        lot = Lot(8, box(8, 0, 1))
        source = random.Random(38)
        for many in range(1, 8):
            sums = random_sums(source, 8, many, 4)
            image = lot.image(sums)
            for _ in range(20):
                weights = tuple(source.randint(-5, 5) for _ in range(many))
                pulls = [sum(weight * sums[place][0][level] for place, weight in enumerate(weights))
                         for level in range(8)]
                plus = sum(weight * sums[place][1] for place, weight in enumerate(weights))
                # The most of a sum of intervals is known: each level counts where it pulls up.
                self.assertEqual(value(image.most(weights)), plus + sum(pull for pull in pulls if pull > 0))
            for _ in range(20):
                corner = tuple((source.randint(0, 1), 1) for _ in range(8))
                self.assertIs(image.has(set_by(sums, corner)), True)


class SourceTest(unittest.TestCase):
    def test_ordinary(self):
        lot = Lot(2, box(2, 0, 1))
        source = lot.source([((1, 1, 0), 3), ((0, 0, 2), -1)])
        self.assertEqual(source.count, 3)
        want = [((1, 1, 0), -2), ((-1, -1, 0), 3), ((0, 0, 1), 1), ((0, 0, -2), -1)]
        self.assertTrue(source == Lot(3, want))

    def test_of_an_empty_lot_and_of_none(self):
        self.assertTrue(Lot(1, [((0,), -1)]).source([((1, 1), 0)]).is_empty())
        self.assertTrue(Lot(2, [((1, 0), 0), ((-1, 0), -1)]).source([((1,), 0), ((2,), 0)]).is_empty())
        self.assertTrue(Lot(1, [((1,), 0)]).source([((0, 0), 1)]).is_empty())
        self.assertTrue(Lot(1, [((1,), 0)]).source(sums=[((0, 0), -1)]) == Lot(2))

    def test_refusals(self):
        for rows in ([], [((0, 0), -1)]):
            lot = Lot(2, rows)
            for sums in ([], [((1, 1), 0)], [((1, 1), 0)] * 3, [((1, 1), 0), ((1,), 0)], [((), 0), ((), 0)],
                         [((1,) * 9, 0)] * 2, [((1,), 0), ((), 0)]):
                self.assertRaises(BadSums, lot.source, sums)

    def test_random(self):
        source = random.Random(39)
        for _ in range(150):
            count, levels = source.randint(1, 4), source.randint(1, 8)
            rows = random_rows(source, count, source.randint(0, 6))
            sums = random_sums(source, levels, count)
            lot = Lot(count, rows).source(sums)
            self.assertEqual(lot.count, levels)
            tried = list(borders(source, lot)) + [some_state(source, levels) for _ in range(5)]
            for state in tried:
                self.assertIs(lot.has(state), keeps(rows, set_by(sums, state)))

    def test_image_and_source_fit_together(self):
        source = random.Random(40)
        for _ in range(40):
            rows = random_rows(source, 3, 5)
            sums = random_sums(source, 3, 2)
            lot = Lot(3, rows)
            self.assertTrue(lot.within(lot.image(sums).source(sums)))
            other = Lot(2, random_rows(source, 2, 4))
            self.assertTrue(other.source(sums).image(sums).within(other))


class UnchangedTest(unittest.TestCase):
    def test_nothing_handed_in_is_changed_or_kept(self):
        rows = box(3, 0, 2)
        sums = [((1, 2, 3), 1), ((0, 1, 0), 0)]
        lot = Lot(3, rows)
        image = lot.image(sums)
        told = image.rows()
        source = image.source(sums)
        lot.shadow(0)
        self.assertEqual(sums, [((1, 2, 3), 1), ((0, 1, 0), 0)])
        self.assertEqual(rows, box(3, 0, 2))
        sums.append("more")
        told.append("more")
        self.assertEqual(image.rows(), told[:-1])
        self.assertEqual(lot.rows(), box(3, 0, 2))
        self.assertEqual(source.count, 3)

    def test_lots_made_the_same_way_tell_the_same(self):
        rows = random_rows(random.Random(41), 4, 9, 4)
        sums = random_sums(random.Random(42), 4, 2)
        self.assertEqual(Lot(4, rows).image(sums).rows(), Lot(4, rows).image(sums).rows())
        lot = Lot(4, rows)
        lot.most((1, 2, 3, 4))
        self.assertEqual(lot.shadow(2).rows(), Lot(4, rows).shadow(2).rows())


if __name__ == "__main__":
    unittest.main()
