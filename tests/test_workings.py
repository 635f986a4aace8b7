"""The workings behind lots: corners, and the two ways to an image."""

import itertools
import random
import unittest
from unittest import mock

from slopeyard import corners, images
from slopeyard.corners import ENDLESS, OVER, TOP, Corner
from slopeyard.lots import Lot
from slopeyard.slim import slimmed
from slopeyard.thin import needed, thinned, tightest
from slopeyard.ties import solved, ways_along
from tests.reckoning import box, random_rows, random_sums, units
from tests.simplex import all_keep, kept_somewhere


def product(one, other):
    return sum(left * right for left, right in zip(one, other))


def degenerate_walls(source, count, many):
    """Walls of small numbers, most of which meet in one state."""
    state = [source.randint(-3, 3) for _ in range(count)]
    walls = []
    for _ in range(many):
        weights = tuple(source.randint(-1, 1) for _ in range(count))
        walls.append((*weights, -product(weights, state) - source.choice([0, 0, 0, 1])))
    return walls


class CornerTest(unittest.TestCase):
    def check_settled(self, corner, walls):
        self.assertGreater(corner.part, 0)
        for wall, gap in zip(walls, corner.gaps):
            self.assertLessEqual(gap, 0)
            self.assertEqual(gap, product(wall, corner.point + [corner.part]))

    def check_climb(self, corner, walls, goal):
        word = corner.climb(goal)
        self.check_settled(corner, walls)
        if word == ENDLESS:
            self.assertGreater(product(goal, corner.ray), 0)
            for wall in walls:
                self.assertLessEqual(product(wall, corner.ray), 0)
            return
        self.assertEqual(word, TOP)
        total = [0] * (corner.count + 1)
        for place, weight in corner.shares(goal):
            self.assertGreater(weight, 0)
            total = [so_far + weight * number for so_far, number in zip(total, walls[place])]
        self.assertEqual(total[:-1], [corner.part * number for number in goal])
        self.assertEqual(-total[-1], product(goal, corner.point))

    def check_all(self, source, walls, count):
        corner = Corner(count, walls)
        barring = corner.settle()
        if barring:
            total = [0] * (count + 1)
            for place, weight in barring:
                self.assertGreater(weight, 0)
                total = [so_far + weight * number for so_far, number in zip(total, walls[place])]
            self.assertFalse(any(total[:-1]))
            self.assertGreater(total[-1], 0)
            return
        self.check_settled(corner, walls)
        twin = corner.twin()
        told = (list(twin.point), twin.part, list(twin.held))
        for _ in range(3):
            self.check_climb(corner, walls, [source.randint(-2, 2) for _ in range(count)])
        self.assertEqual((twin.point, twin.part, twin.held), told)

    def test_with_and_without_patience(self):
        for patience in (0, 1, 30):
            source = random.Random(61)
            with mock.patch.object(corners, "_PATIENCE", patience):
                for _ in range(150):
                    count = source.randint(1, 6)
                    walls = degenerate_walls(source, count, source.randint(0, 25))
                    if source.random() < 0.3:
                        walls += [(*weights, -bound) for weights, bound in random_rows(source, count, 5)]
                    self.check_all(source, walls, count)

    def test_ways_that_are_known_to_go_round(self):
        # Goals and walls after Beale, and after Kuhn, for which the steepest way may come back to where it was.
        beale = [(1, -32, -4, 36, 0), (1, -24, -1, 6, 0), (0, 0, 1, 0, -1)]
        kuhn = [(-2, -9, 1, 9, 0), (1, 3, -1, -6, 0), (2, 3, -1, -12, -2)]
        bounds = [(*[-weight for weight in weights], 0) for weights, _ in units(4)]
        for walls, goal in [(beale, [3, -80, 2, -24]), (kuhn, [2, 3, -1, -12])]:
            for patience in (0, 30):
                with mock.patch.object(corners, "_PATIENCE", patience):
                    corner = Corner(4, walls + bounds)
                    self.assertEqual(corner.settle(), [])
                    self.check_climb(corner, walls + bounds, goal)

    def test_a_roof(self):
        walls = [(*weights, -bound) for weights, bound in box(2, 0, 4)]
        corner = Corner(2, walls)
        self.assertEqual(corner.settle(), [])
        self.assertEqual(corner.climb([1, 1], 8), TOP)
        self.assertEqual(corner.climb([-1, 0], -1), OVER)
        self.assertEqual(corner.climb([-1, 0], 0), TOP)

    def test_one_wall_more(self):
        corner = Corner(1, [(-1, 0)])
        corner.settle()
        self.assertEqual(corner.climb([1]), ENDLESS)
        corner.narrow((2, -5))
        self.assertEqual(corner.settle(), [])
        self.check_climb(corner, [(-1, 0), (2, -5)], [1])
        self.assertEqual((corner.point, corner.part), ([5], 2))
        corner.narrow((2, -3))
        self.assertEqual(corner.gaps[2], 4)
        self.assertEqual(corner.settle(), [])
        corner.narrow((1, 1))
        self.assertNotEqual(corner.settle(), [])


class TiesTest(unittest.TestCase):
    def test_ways_change_no_tie(self):
        source = random.Random(62)
        for _ in range(100):
            length = source.randint(1, 6)
            ties = [[source.randint(-2, 2) for _ in range(length + 1)] for _ in range(source.randint(0, 4))]
            ways = ways_along(ties, length)
            for way in ways:
                self.assertTrue(any(way))
                self.assertEqual([product(tie[:length], way) for tie in ties], [0] * len(ties))
            _, _, free, _ = solved(ties, [], list(range(length)))
            self.assertEqual(len(ways), len(free))
            _, _, _, used = solved(ways, [], list(range(length)))
            self.assertEqual(len(used), len(ways))


class ThinTest(unittest.TestCase):
    def test_walls_that_touch_a_box_at_its_rims_are_needless(self):
        for count in (1, 2, 3, 4):
            walls, needless = [(*weights, -bound) for weights, bound in box(count, -1, 1)], []
            for weights in itertools.product((-1, 0, 1), repeat=count):
                if sum(map(abs, weights)) > 1:
                    needless.append((*weights, -sum(map(abs, weights))))
            source = random.Random(66)
            for _ in range(10):
                mixed = walls + needless
                source.shuffle(mixed)
                inside = [source.randint(-1, 1) for _ in range(count)]
                self.assertEqual(sorted(thinned(mixed, inside, 2)), sorted(walls))

    def test_those_that_are_asked_for_alone(self):
        walls = [(1, 0, -1), (0, 1, -1), (1, 1, -2), (2, 1, -4), (-1, -1, -1)]
        self.assertEqual(needed(walls, [2, 0, 3], [0, 0], 1), [0])
        self.assertEqual(needed(walls, [0, 1, 2, 3, 4], [0, 0], 1), [0, 1, 4])

    def test_tightest(self):
        walls = [(2, 4, -6), (1, 2, -4), (3, 6, -8), (0, 0, -1), (-1, -2, 0), (3, 6, -8), (1, 2, 5)]
        self.assertEqual(sorted(tightest(walls[:4])), [(3, 6, -8)])
        self.assertEqual(sorted(tightest(walls)), [(-1, -2, 0), (1, 2, 5)])


class ImagesTest(unittest.TestCase):
    def lots(self, source):
        for _ in range(80):
            count = source.randint(2, 5)
            rows = random_rows(source, count, source.randint(0, 8), source.choice([1, 2, 5]))
            if source.random() < 0.5:
                rows += box(count, -1, source.randint(-1, 1))
            yield Lot(count, rows), random_sums(source, count, source.randint(1, 4), 2)
        for count in (4, 5, 6):
            rows = [(weights[:-1], -weights[-1]) for weights in degenerate_walls(source, count, 4 * count)]
            yield Lot(count, rows), random_sums(source, count, 3, 1)
            yield Lot(count, rows), units(count, range(count - 1))
            yield Lot(count, rows), units(count, range(count - 2))
        for count in (3, 4, 5, 3, 4, 5):
            rows = []
            while len(rows) < 3 * count:
                weights = tuple(source.randint(-3, 3) for _ in range(count))
                if sum(weights) < 0:
                    rows.append((weights, 0))
            yield Lot(count, rows), units(count, range(1, count))
            yield Lot(count, rows), random_sums(source, count, count - 1, 2)

    def test_no_row_of_an_image_is_needless(self):
        for lot, sums in self.lots(random.Random(63)):
            _, _, free, _ = solved([list(weights) for weights, _ in sums], [], list(range(lot.count)))
            if not free or lot.is_empty():
                continue
            rows = lot.image(sums).rows()
            for place, row in enumerate(rows):
                self.assertIsNone(Lot(len(sums), rows[:place] + rows[place + 1:]).shows(row))

    def test_both_ways_to_an_image_come_to_the_same(self):
        for lot, sums in self.lots(random.Random(64)):
            with mock.patch.object(images, "_from_outside", lambda free, kept, walls: bool(free)):
                outside = lot.image(sums)
            with mock.patch.object(images, "_from_outside", lambda free, kept, walls: False):
                along = lot.image(sums)
            self.assertTrue(outside == along)
            self.assertEqual(sorted(outside.rows()), sorted(along.rows()))

    def test_images_of_boxes_where_many_states_meet_a_row(self):
        source = random.Random(67)
        for many, levels in [(3, 5), (4, 5), (4, 6), (4, 7)] * 3:
            lot, sums = Lot(levels, box(levels, 0, 1)), random_sums(source, levels, many, 1)
            with mock.patch.object(images, "_from_outside", lambda free, kept, walls: bool(free)):
                outside = lot.image(sums).rows()
            with mock.patch.object(images, "_from_outside", lambda free, kept, walls: False):
                along = lot.image(sums).rows()
            self.assertEqual(sorted(outside), sorted(along))

    def test_many_walls_are_looked_at_from_outside(self):
        source = random.Random(65)
        rows = [(tuple(source.randint(-50, 50) for _ in range(4)), 100) for _ in range(60)]
        rows += [(tuple(source.randint(-50, 50) for _ in range(4)), 100) for _ in range(60)]
        lot = Lot(4, rows)
        with mock.patch.object(images, "_MANY_WALLS", 1):
            outside = lot.shadow(2)
        with mock.patch.object(images, "_MANY_WALLS", 1000):
            along = lot.shadow(2)
        self.assertEqual(sorted(outside.rows()), sorted(along.rows()))


def as_rows(walls):
    return [(wall[:-1], -wall[-1]) for wall in walls]


class SlimTest(unittest.TestCase):
    def check(self, count, walls):
        rows = as_rows(walls)
        slim = as_rows(slimmed(count, walls))
        for row in slim:
            self.assertTrue(all_keep(rows, count, row), (rows, row))
        for row in rows:
            self.assertTrue(all_keep(slim, count, row), (slim, row))
        # A tie stands there as two rows; of all else none is kept wherever the others are.
        backs = [(tuple(-weight for weight in weights), -bound) for weights, bound in slim]
        for place, row in enumerate(slim):
            others = slim[:place] + slim[place + 1:]
            self.assertFalse(all_keep(others, count, row), (slim, row))
            self.assertEqual(row in backs, all_keep(slim, count, backs[place]))

    def test_random(self):
        source = random.Random(71)
        checked = 0
        for _ in range(300):
            count = source.randint(1, 4)
            walls = degenerate_walls(source, count, source.randint(0, 9))
            if source.random() < 0.5:
                walls = [(*weights, -bound) for weights, bound in random_rows(source, count, source.randint(0, 8))]
            if source.random() < 0.3:
                walls = [(*wall[:-1], wall[-1] + 40 * wall[0]) for wall in walls]
            if kept_somewhere(as_rows(walls), count):
                self.check(count, walls)
                checked += 1
        self.assertGreater(checked, 150)

    def test_far_from_nought(self):
        walls = [(*weights, -bound) for weights, bound in box(3, 900, 907)]
        self.assertEqual(sorted(slimmed(3, walls + [(1, 1, 1, -5000), (0, 0, 0, 0), (2, 0, 0, -1814)])), sorted(walls))

    def test_one_state_alone(self):
        walls = slimmed(2, [(1, 0, -7), (-1, 0, 7), (0, 1, 3), (0, -2, -6), (1, 1, 0), (1, -1, -10)])
        self.assertEqual(len(walls), 4)
        self.check(2, [tuple(wall) for wall in walls])

    def test_no_walls(self):
        self.assertEqual(slimmed(3, []), [])
        self.assertEqual(slimmed(1, [(0, -4), (0, 0)]), [])


if __name__ == "__main__":
    unittest.main()
