import random
import unittest
from fractions import Fraction

from slopeyard.errors import BadRow, NoBeginning, NoDoor
from slopeyard.lifted import begin_goal, begin_rows, door_goal, door_rows
from slopeyard.machine import Machine
from tests.lifting import own_begin, own_door
from tests.machines import behind_stay, behind_sums, build, keeps_all, loose_rows, random_plan, told
from tests.reckoning import random_rows

BIG = 10 ** 20 - 1


def small():
    machine = Machine(2)
    machine.add_room("hall", [((2, 4), 6), ((-1, 0), 0)], [(1, -1), (0, 3)])
    machine.add_room("bath", [((0, 2), 8)], [(5, 1)])
    machine.add_room("yard", [], [(0, 0), (1, 0), (0, 1), (-1, -1)])
    machine.add_door("hall", "bath", "go", [((2, 0), 2)], [((1, 2), 3), ((0, -1), -4)])
    machine.add_door("bath", "yard", "out", [], [((0, 0), 0), ((0, 0), 1)])
    machine.add_begin("hall", [((3, 3), 9)])
    machine.add_begin("yard", [])
    return machine


class WordForWordTest(unittest.TestCase):
    def test_a_beginning(self):
        self.assertEqual(begin_rows(small(), 0), [
            ((3, 3, 0, 0), 9),
            ((2, 4, 0, 0), 6), ((-1, 0, 0, 0), 0),
            ((0, 0, -1, 0), 0), ((0, 0, 0, -1), 0),
            ((2, 4, -2, 12), 6), ((-1, 0, -1, 0), 0)])

    def test_a_beginning_without_rows(self):
        self.assertEqual(begin_rows(small(), 1), [
            ((0, 0, -1, 0, 0, 0), 0), ((0, 0, 0, -1, 0, 0), 0), ((0, 0, 0, 0, -1, 0), 0), ((0, 0, 0, 0, 0, -1), 0)])

    def test_a_door(self):
        # Ahead of it (a, b); it sets (a + 2b + 3, -b - 4); then both rise by 5 and 1 in the stay's time.
        self.assertEqual(door_rows(small(), 1, [((4, 6), 8), ((0, 0), -1)]), [
            ((4, 6, 0), 8), ((0, 0, 0), -1),
            ((2, 0, 0), 2),
            ((0, -2, 0), 16),
            ((0, 0, -1), 0),
            ((0, -2, 2), 16)])

    def test_a_door_without_rows(self):
        self.assertEqual(door_rows(small(), 2, []), [
            ((0, 0, -1, 0, 0, 0), 0), ((0, 0, 0, -1, 0, 0), 0), ((0, 0, 0, 0, -1, 0), 0), ((0, 0, 0, 0, 0, -1), 0)])

    def test_goals(self):
        machine = small()
        self.assertEqual(begin_goal(machine, 0, ((2, 2), 4)), ((2, 2, 0, 6), 4))
        self.assertEqual(begin_goal(machine, 1, ((6, 4), -2)), ((6, 4, 0, 6, 4, -10), -2))
        self.assertEqual(door_goal(machine, 1, ((2, 4), 6)), ((2, 0, 14), 16))
        self.assertEqual(door_goal(machine, 2, ((2, 4), 6)), ((0, 0, 0, 2, 4, -6), 2))
        self.assertEqual(door_goal(machine, 2, ((0, 0), 0)), ((0, 0, 0, 0, 0, 0), 0))

    def test_by_name(self):
        machine, row = small(), ((2, 4), 6)
        self.assertEqual(begin_rows(begin=1, machine=machine), begin_rows(machine, 1))
        self.assertEqual(begin_goal(row=row, begin=1, machine=machine), begin_goal(machine, 1, row))
        self.assertEqual(door_rows(rows=[row], number=2, machine=machine), door_rows(machine, 2, [row]))
        self.assertEqual(door_goal(row=row, number=2, machine=machine), door_goal(machine, 2, row))

    def test_kinds(self):
        machine, row = small(), ((2, 4), 6)
        for rows in (begin_rows(machine, 0), door_rows(machine, 1, [row]), door_rows(machine, 1, (row,))):
            self.assertIs(type(rows), list)
            self.assertEqual({(type(one), type(one[0]), type(one[1])) for one in rows}, {(tuple, tuple, int)})
        for one in (begin_goal(machine, 0, row), door_goal(machine, 1, row)):
            self.assertEqual((type(one), type(one[0]), type(one[1])), (tuple, tuple, int))


class OwnWritingTest(unittest.TestCase):
    def test_random(self):
        source = random.Random(61)
        for _ in range(150):
            plan = random_plan(source)
            machine = build(plan)
            goals = loose_rows(source, plan.count, 3)
            for begin in range(len(plan.begins)):
                rows, lifted = own_begin(plan, begin, goals)
                self.assertEqual(begin_rows(machine, begin), rows)
                self.assertEqual([begin_goal(machine, begin, row) for row in goals], lifted)
            for number in plan.doors:
                ahead = loose_rows(source, plan.count, source.choice([0, 1, 3, 12]))
                rows, lifted = own_door(plan, number, ahead, goals)
                self.assertEqual(door_rows(machine, number, ahead), rows)
                self.assertEqual([door_goal(machine, number, row) for row in goals], lifted)

    def test_beyond_the_bounds_of_a_machine(self):
        source = random.Random(62)
        for _ in range(20):
            plan = random_plan(source)
            machine = build(plan)
            number = source.choice(list(plan.doors))
            ahead = random_rows(source, plan.count, 30, source.choice([100, 10000, BIG, BIG ** 2]))
            rows, lifted = own_door(plan, number, ahead, ahead)
            self.assertEqual(door_rows(machine, number, ahead), rows)
            self.assertEqual([door_goal(machine, number, row) for row in ahead], lifted)
            _, lifted = own_begin(plan, 0, ahead)
            self.assertEqual([begin_goal(machine, 0, row) for row in ahead], lifted)

    def test_at_the_bounds_of_a_machine(self):
        machine = Machine(4)
        machine.add_room("a", [((99,) * 4, -9999)] * 8, [(9999,) * 4, (-9999,) * 4] * 2)
        machine.add_door("a", "a", "x", [((-99,) * 4, 9999)] * 8, [((-9,) * 4, -999)] * 4)
        machine.add_begin("a", [((-99,) * 4, 9999)] * 8)
        along = 4 * 99 * 9999
        times = [((0,) * 4 + tuple(-int(spot == place) for spot in range(4)), 0) for place in range(4)]
        self.assertEqual(begin_rows(machine, 0),
                         [((-99,) * 4 + (0,) * 4, 9999)] * 8 + [((99,) * 4 + (0,) * 4, -9999)] * 8 + times
                         + [((99,) * 4 + (along, -along) * 2, -9999)] * 8)
        set_so, bound = (-4 * 9 * 99,) * 4, -9999 + 4 * 99 * 999
        self.assertEqual(door_rows(machine, 1, []),
                         [((-99,) * 4 + (0,) * 4, 9999)] * 8 + [(set_so + (0,) * 4, bound)] * 8 + times
                         + [(set_so + (along, -along) * 2, bound)] * 8)

    def test_they_are_kept_just_where_the_stay_is_let(self):
        source = random.Random(63)
        kept = 0
        for _ in range(400):
            plan = random_plan(source)
            machine = build(plan)
            number = source.choice(list(plan.doors))
            first, room, _, own, sums = plan.doors[number]
            rows, slopes = plan.rooms[room]
            state = tuple(Fraction(source.randint(-4, 4), source.randint(1, 3)) for _ in range(plan.count))
            times = [Fraction(source.randint(-1, 4), source.randint(1, 3)) for _ in slopes]
            set_so = behind_sums(state, sums)
            ahead = plan.rooms[first][0]
            let = (keeps_all(ahead + own, state) and keeps_all(rows, set_so) and min(times) >= 0
                   and keeps_all(rows, behind_stay(set_so, slopes, times)))
            self.assertIs(keeps_all(door_rows(machine, number, ahead), (*state, *times)), let)
            kept += let
        self.assertGreater(kept, 10)


class RefusalsTest(unittest.TestCase):
    def test_no_beginning(self):
        machine = small()
        ahead = told(machine)
        for begin in (-1, -2, 2, 3, BIG, -BIG):
            self.assertRaises(NoBeginning, begin_rows, machine, begin)
            self.assertRaises(NoBeginning, begin_goal, machine, begin, ((1, 1), 1))
            self.assertRaises(NoBeginning, begin_goal, machine, begin, ((1,), 1))
        self.assertRaises(NoBeginning, begin_rows, Machine(1), 0)
        self.assertEqual(told(machine), ahead)

    def test_no_door(self):
        machine = small()
        machine.add_door("hall", "hall", "x", [], [((1, 0), 0), ((0, 1), 0)])
        machine.shut(3)
        ahead = told(machine)
        for number in (0, -1, 3, 4, BIG, -BIG):
            for rows in ([], [((1, 1), 1)], [((1,), 1)]):
                self.assertRaises(NoDoor, door_rows, machine, number, rows)
            self.assertRaises(NoDoor, door_goal, machine, number, ((1, 1), 1))
            self.assertRaises(NoDoor, door_goal, machine, number, ((1, 1, 1), 1))
        self.assertEqual(told(machine), ahead)

    def test_rows_of_another_count(self):
        machine = small()
        ahead = told(machine)
        for row in (((), 1), ((1,), 1), ((1, 1, 1), 1), ((1, 1, 0), 1), ((1, 1, 1, 1), 1)):
            self.assertRaises(BadRow, begin_goal, machine, 0, row)
            self.assertRaises(BadRow, door_goal, machine, 1, row)
            self.assertRaises(BadRow, door_rows, machine, 1, [row])
            self.assertRaises(BadRow, door_rows, machine, 1, [((1, 1), 1)] * 9 + [row])
        self.assertEqual(told(machine), ahead)


class CopiesTest(unittest.TestCase):
    def test_what_is_handed_in_stays_and_told_lists_are_new(self):
        machine, rows = small(), [((4, 6), 8)]
        ahead = told(machine)
        first = [begin_rows(machine, 0), begin_rows(machine, 1), door_rows(machine, 1, rows), door_rows(machine, 2, [])]
        kept = [list(one) for one in first]
        for one in first:
            one.append("more")
            one[0] = "other"
        self.assertEqual(rows, [((4, 6), 8)])
        rows.append("more")
        self.assertEqual(told(machine), ahead)
        again = [begin_rows(machine, 0), begin_rows(machine, 1), door_rows(machine, 1, [((4, 6), 8)]),
                 door_rows(machine, 2, [])]
        self.assertEqual(again, kept)

    def test_it_goes_by_the_machine_as_it_is_now(self):
        machine = small()
        machine.shut(1)
        self.assertRaises(NoDoor, door_rows, machine, 1, [])
        number = machine.add_door("yard", "hall", "in", [], [((1, 0), 0), ((0, 1), 0)])
        self.assertEqual(number, 3)
        self.assertEqual(len(door_rows(machine, 3, [])), 6)
        self.assertEqual(machine.add_begin("bath", []), 2)
        self.assertEqual(begin_rows(machine, 2), [((0, 2, 0), 8), ((0, 0, -1), 0), ((0, 2, 2), 8)])


if __name__ == "__main__":
    unittest.main()
