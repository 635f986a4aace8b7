import random
import unittest
from fractions import Fraction

from slopeyard.errors import BadRow, BadState, NoBeginning, NoDoor, NoRoom
from slopeyard.lots import Lot
from slopeyard.machine import Machine
from slopeyard.reach import before, behind, run_by
from slopeyard.runs import run_end
from tests.machines import Plan, build, loose_rows, random_plan, told, walk
from tests.reckoning import keeps, pair, state_of, value
from tests.simplex import ENDLESS
from tests.unrolled import Unrolled, from_begin

BIG = 10 ** 20 - 1
AS_IT_IS = [((1,), 0)]


def vessel():
    """It rises by three up to ten, and falls by one or two down to nought; one door each way, and one within."""
    machine = Machine(1)
    machine.add_room("fill", [((1,), 10)], [(3,)])
    machine.add_room("drain", [((-1,), 0)], [(-1,), (-2,)])
    machine.add_door("fill", "drain", "turn", [((-1,), -8)], [((1,), 1)])
    machine.add_door("drain", "fill", "back", [((1,), 4)], AS_IT_IS)
    machine.add_door("drain", "drain", "drop", [((1,), 1)], [((1,), -1)])
    machine.add_begin("fill", [((1,), 1), ((-1,), 0)])
    machine.add_begin("drain", [((1,), 2)])
    return machine


def between(low, high):
    return Lot(1, [((-1,), -low), ((1,), high)])


def points(source, lot):
    """States within a lot, at its border, a little beside that, and anywhere."""
    found = [tuple((source.randint(-9, 9), source.randint(1, 3)) for _ in range(lot.count)) for _ in range(3)]
    if lot.is_empty():
        return found
    found.append(lot.state())
    for _ in range(3):
        weights = tuple(source.randint(-3, 3) for _ in range(lot.count))
        most = lot.most(weights)
        if most is not None:
            just = Lot(lot.count, [(tuple(-most[1] * weight for weight in weights), -most[0])])
            state = lot.meet(just).state()
            found += [state, tuple(pair(value(level) + Fraction(weight, 10 ** 6))
                                   for level, weight in zip(state, weights))]
    return found


def some_trail(source, plan, room, many):
    """Doors that mostly fit one another."""
    trail = []
    for _ in range(many):
        ways = [number for number, door in plan.doors.items() if door[0] == room]
        number = source.choice(ways if ways and source.random() < 0.9 else list(plan.doors))
        trail.append(number)
        room = plan.doors[number][1]
    return trail


class BehindTest(unittest.TestCase):
    def test_no_door(self):
        self.assertEqual(behind(vessel()), between(0, 10))
        self.assertEqual(behind(vessel(), (), begin=1), between(0, 2))
        self.assertEqual(behind(machine=vessel(), trail=[], begin=0), between(0, 10))

    def test_doors(self):
        machine = vessel()
        self.assertEqual(behind(machine, (1,)), between(0, 11))
        self.assertEqual(behind(machine, [1, 2]), between(0, 10))
        self.assertEqual(behind(machine, (2,), begin=1), between(0, 10))
        self.assertEqual(behind(machine, (3,), begin=1), between(0, 0))
        self.assertEqual(behind(machine, (1, 3)), between(0, 0))
        self.assertEqual(behind(machine, (2, 1, 2, 1), begin=1), between(0, 11))

    def test_doors_that_do_not_fit(self):
        machine = vessel()
        for trail in [(2,), (3,), (1, 1), (1, 2, 2), (2, 1), (1, 3, 1)]:
            lot = behind(machine, trail)
            self.assertIs(lot.is_empty(), True)
            self.assertEqual(lot.count, 1)
        self.assertIs(behind(machine, (1,), begin=1).is_empty(), True)

    def test_nothing_is_come_to(self):
        machine = vessel()
        number = machine.add_door("fill", "fill", "x", [((-1,), -11)], AS_IT_IS)
        self.assertIs(behind(machine, (number,)).is_empty(), True)
        self.assertIs(behind(machine, (1, 3, 3)).is_empty(), True)
        number = machine.add_door("drain", "fill", "x", [], [((1,), 11)])
        self.assertIs(behind(machine, (1, 3, number)).is_empty(), True)
        # The stay behind a door can't make good what the door breaks.
        number = machine.add_door("fill", "drain", "x", [], [((0,), -1)])
        self.assertIs(behind(machine, (number,)).is_empty(), True)
        begin = machine.add_begin("fill", [((-1,), -11)])
        self.assertIs(behind(machine, begin=begin).is_empty(), True)
        self.assertIs(behind(machine, (1, 2), begin=begin).is_empty(), True)

    def test_lots_without_an_end(self):
        machine = Machine(2)
        machine.add_room("a", [], [(1, 1)])
        machine.add_room("b", [((-1, 0), 0)], [(-1, 0), (0, 1), (0, -1)])
        machine.add_door("a", "b", "x", [], [((1, 0), 0), ((1, -1), 0)])
        machine.add_begin("a", [((1, 0), 0), ((-1, 0), 0), ((0, 1), 0)])
        self.assertEqual(behind(machine), Lot(2, [((-1, 0), 0), ((-1, 1), 0)]))
        self.assertEqual(behind(machine, (1,)), Lot(2, [((-1, 0), 0)]))

    def test_slopes_of_noughts_and_stays_of_no_length(self):
        machine = Machine(2)
        machine.add_room("a", [], [(0, 0)] * 4)
        machine.add_room("b", [((1, 0), 0), ((-1, 0), 0)], [(1, 1), (0, 0)])
        machine.add_door("a", "b", "x", [], [((1, 0), 0), ((0, 1), 0)])
        machine.add_begin("a", [((1, 1), 3), ((-1, -1), -3)])
        self.assertEqual(behind(machine), Lot(2, [((1, 1), 3), ((-1, -1), -3)]))
        self.assertEqual(behind(machine, (1,)), Lot(2, [((1, 0), 0), ((-1, 0), 0), ((0, 1), 3), ((0, -1), -3)]))

    def test_shut_doors_are_no_doors_and_the_others_keep_their_numbers(self):
        machine = vessel()
        machine.shut(2)
        self.assertRaises(NoDoor, behind, machine, (1, 2))
        self.assertRaises(NoDoor, behind, machine, (2, 2, 1))
        self.assertEqual(behind(machine, (1, 3)), between(0, 0))
        self.assertEqual(machine.add_door("drain", "fill", "back", [((1,), 3)], AS_IT_IS), 4)
        self.assertRaises(NoDoor, behind, machine, (1, 2))
        self.assertEqual(behind(machine, (1, 4)), between(0, 10))

    def test_refusals_in_their_order(self):
        machine = vessel()
        ahead = told(machine)
        for begin in (-1, 2, BIG, -BIG):
            self.assertRaises(NoBeginning, behind, machine, begin=begin)
            self.assertRaises(NoBeginning, behind, machine, (9,), begin=begin)
        for trail in [(0,), (4,), (-1,), (BIG,), (1, 9), (9, 1), (2, 2, 9), [1, 3, 2, 0]]:
            self.assertRaises(NoDoor, behind, machine, trail)
        self.assertRaises(NoBeginning, behind, Machine(3))
        self.assertRaises(TypeError, behind, machine, (), 1)
        self.assertEqual(told(machine), ahead)

    def test_long_trails(self):
        self.assertEqual(behind(vessel(), (1, 2) * 30), between(0, 10))
        run = run_by(vessel(), ((7, 3),), (1, 2) * 30)
        self.assertEqual(run_end(vessel(), run)[:2], ("fill", ((7, 3),)))


class RunByTest(unittest.TestCase):
    def check(self, machine, state, trail, begin):
        run = run_by(machine, state, trail, begin=begin)
        room, end, _ = run_end(machine, run)
        self.assertEqual(end, tuple(pair(value(level)) for level in state))
        self.assertEqual(run[0], begin)
        self.assertEqual(run[2][1::2], list(trail))
        self.assertEqual([type(run), type(run[1]), type(run[2])], [tuple, tuple, list])
        for stay in run[2][::2]:
            self.assertIs(type(stay), list)
            self.assertEqual(stay, [pair(value(time)) for time in stay])
        self.assertEqual(run[1], tuple(pair(value(level)) for level in run[1]))
        return room

    def test_ordinary(self):
        machine = vessel()
        self.assertEqual(self.check(machine, ((10, 1),), (), 0), "fill")
        self.assertEqual(self.check(machine, ((1, 7),), (), 1), "drain")
        self.assertEqual(self.check(machine, ((11, 1),), (1,), 0), "drain")
        self.assertEqual(self.check(machine, ((0, 1),), [1, 3], 0), "drain")
        self.assertEqual(self.check(machine, ((6, 4),), (1, 2), 0), "fill")

    def test_states_that_are_not_come_to(self):
        machine = vessel()
        for state, trail in [(((21, 2),), ()), (((-1, 9),), ()), (((12, 1),), (1,)), (((1, 2),), (1, 3)),
                             (((0, 1),), (1, 3, 3)), (((5, 1),), (2,)), (((5, 1),), (1, 1)), (((1, BIG),), (1, 3))]:
            self.assertIsNone(run_by(machine, state, trail))
        self.assertIsNone(run_by(machine, ((3, 1),), begin=1))

    def test_lowest_terms_and_by_name(self):
        run = run_by(machine=vessel(), state=((5, 10),), trail=(), begin=1)
        self.assertEqual(run_end(vessel(), run)[1], ((1, 2),))
        self.check(vessel(), ((BIG, BIG // 9 - 1),), (1, 2), 0)

    def test_refusals_in_their_order(self):
        machine = vessel()
        ahead = told(machine)
        self.assertRaises(NoBeginning, run_by, machine, (), (9,), begin=2)
        self.assertRaises(NoBeginning, run_by, machine, (), begin=-1)
        self.assertRaises(NoDoor, run_by, machine, (), (1, 9))
        self.assertRaises(NoDoor, run_by, machine, (), (2, 2, 0))
        for state in ((), ((1, 1), (1, 1)), ((1, 1),) * 4):
            for trail in ((), (1,), (2, 2)):
                self.assertRaises(BadState, run_by, machine, state, trail)
        self.assertRaises(TypeError, run_by, machine, ((1, 1),), (), 0)
        self.assertEqual(told(machine), ahead)


class BeforeTest(unittest.TestCase):
    def test_no_door(self):
        machine = vessel()
        self.assertEqual(before(machine, "fill", [((-1,), -5)]), Lot(1, [((1,), 10)]))
        self.assertEqual(before(machine, "fill", [((1,), 5)]), Lot(1, [((1,), 5)]))
        self.assertEqual(before(machine, "drain", [((-1,), -5)], []), Lot(1, [((-1,), -5)]))
        self.assertEqual(before(machine, "drain", [((1,), 5)]), Lot(1, [((-1,), 0)]))
        self.assertEqual(before(machine, "drain", []), Lot(1, [((-1,), 0)]))
        self.assertIs(before(machine, "drain", [((1,), -1)]).is_empty(), True)

    def test_doors(self):
        machine = vessel()
        self.assertEqual(before(machine, "drain", [((-1,), -10)], (1,)), Lot(1, [((1,), 10)]))
        self.assertEqual(before(machine, "fill", [((1,), 2)], (2,)), Lot(1, [((-1,), 0)]))
        self.assertEqual(before(machine, "drain", [((-1,), 0)], (3,)), Lot(1, [((-1,), -1)]))
        self.assertEqual(before(machine, "drain", [], [3, 3]), Lot(1, [((0,), -1)]))
        self.assertIs(before(machine, "fill", [((-1,), -11)], (1, 2)).is_empty(), True)

    def test_doors_that_do_not_fit(self):
        machine = vessel()
        for room, trail in [("fill", (1,)), ("drain", (2,)), ("drain", (1, 1)), ("fill", (2, 3)), ("drain", (1, 2))]:
            lot = before(machine, room, [], trail)
            self.assertIs(lot.is_empty(), True)
            self.assertEqual(lot.count, 1)
        self.assertIs(before(machine, "fill", [], (1, 2)).is_empty(), False)

    def test_rows_beyond_what_a_machine_can_have(self):
        rows = [((7,), BIG)] * 20 + [((-BIG,), -5 * BIG ** 2)] + [((BIG,), BIG ** 3)]
        self.assertIs(before(vessel(), "fill", rows).is_empty(), True)
        rows = [((BIG,), 3 * BIG)] * 20
        self.assertEqual(before(vessel(), "fill", rows), Lot(1, [((1,), 3)]))

    def test_refusals_in_their_order(self):
        machine = vessel()
        ahead = told(machine)
        bad = [((1,), 0), ((1, 1), 0)]
        self.assertRaises(NoRoom, before, machine, "hall", bad, (9,))
        self.assertRaises(NoRoom, before, machine, "", [])
        self.assertRaises(BadRow, before, machine, "fill", bad, (9,))
        self.assertRaises(BadRow, before, machine, "fill", [((), 0)])
        for trail in [(9,), (1, 9), (9, 1), (1, 1, 0), (0, 2, 1)]:
            self.assertRaises(NoDoor, before, machine, "fill", [], trail)
        machine.shut(1)
        self.assertRaises(NoDoor, before, machine, "fill", [], (1, 2))
        self.assertEqual(told(machine)[4], ahead[4])

    def test_by_name(self):
        lot = before(trail=(1,), rows=[((-1,), -10)], room="drain", machine=vessel())
        self.assertEqual(lot, Lot(1, [((1,), 10)]))


class OwnReckoningTest(unittest.TestCase):
    def check(self, source, plan, trail, begin):
        machine = build(plan)
        own = from_begin(plan, begin, trail)
        lot = behind(machine, trail, begin=begin)
        self.assertEqual(lot.count, plan.count)
        self.assertIs(lot.is_empty(), own.is_empty())
        self.assertTrue(own.lies_in(lot.rows()) or lot.is_empty())
        for state in points(source, lot):
            there = own.has(state)
            self.assertIs(lot.has(state), there)
            run = run_by(machine, state, trail, begin=begin)
            self.assertIs(run is not None, there)
            if there:
                fault, end = walk(plan, run)
                self.assertIsNone(fault)
                self.assertEqual((run[0], run[2][1::2]), (begin, list(trail)))
                self.assertEqual(end[1], tuple(pair(value(level)) for level in state))

    def check_before(self, source, plan, trail, rows):
        last = plan.doors[trail[-1]][1] if trail else source.choice(list(plan.rooms))
        first = plan.doors[trail[0]][0] if trail else last
        lot = before(build(plan), last, rows, trail)
        own = Unrolled(plan, first).along(trail)
        for state in points(source, lot):
            self.assertIs(lot.has(state), own.has_from(state, rows))

    def test_random(self):
        source = random.Random(81)
        for count, many in [(1, 60), (2, 40), (3, 8), (4, 4)]:
            for _ in range(many):
                plan = random_plan(source, count)
                begin = source.randrange(len(plan.begins))
                trail = some_trail(source, plan, plan.begins[begin][0], source.randint(0, 3 if count < 3 else 2))
                self.check(source, plan, trail, begin)
                self.check_before(source, plan, trail, loose_rows(source, count, source.randint(0, 3)))

    def test_lots_behind_and_ahead_of_a_trail_meet(self):
        # Some state behind the trail keeps the rows just where one in which a run can begin lies ahead of them.
        source = random.Random(82)
        met = [0, 0]
        for _ in range(150):
            plan = random_plan(source, source.randint(1, 3))
            machine = build(plan)
            begin = source.randrange(len(plan.begins))
            room, own = plan.begins[begin]
            trail = some_trail(source, plan, room, source.randint(0, 3))
            if trail and plan.doors[trail[0]][0] != room:
                continue
            last = plan.doors[trail[-1]][1] if trail else room
            rows = [(weights, bound - source.randint(0, 12)) for weights, bound in loose_rows(source, plan.count, 2)]
            lot = behind(machine, trail, begin=begin).meet(Lot(plan.count, rows))
            ahead = before(machine, last, rows, trail).meet(Lot(plan.count, own))
            self.assertIs(lot.is_empty(), ahead.is_empty())
            met[lot.is_empty()] += 1
            if not lot.is_empty():
                run = run_by(machine, lot.state(), trail, begin=begin)
                self.assertTrue(ahead.has(run[1]))
                self.assertTrue(keeps(rows, run_end(machine, run)[1]))
        self.assertGreater(min(met), 20)

    def test_the_greatest_in_each_direction(self):
        source = random.Random(83)
        for _ in range(40):
            plan = random_plan(source, source.randint(1, 2))
            begin = source.randrange(len(plan.begins))
            trail = some_trail(source, plan, plan.begins[begin][0], source.randint(0, 2))
            lot, own = behind(build(plan), trail, begin=begin), from_begin(plan, begin, trail)
            for _ in range(3):
                weights = tuple(source.randint(-4, 4) for _ in range(plan.count))
                most = own.most(weights) if not lot.is_empty() else None
                self.assertEqual(lot.most(weights), None if most in (None, ENDLESS) else pair(most))


class CopiesTest(unittest.TestCase):
    def test_what_is_handed_in_stays_and_asking_twice_tells_the_same(self):
        machine = vessel()
        ahead = told(machine)
        trail, rows, state = [1, 2], [((-1,), -3)], ((7, 2),)
        first = (behind(machine, trail).rows(), run_by(machine, state, trail),
                 before(machine, "fill", rows, trail).rows())
        again = (behind(machine, trail).rows(), run_by(machine, state, trail),
                 before(machine, "fill", rows, trail).rows())
        self.assertEqual(first, again)
        self.assertEqual((trail, rows, state, told(machine)), ([1, 2], [((-1,), -3)], ((7, 2),), ahead))
        first[1][2][0].append("more")
        first[1][2].append("more")
        self.assertEqual(run_by(machine, state, trail), again[1])

    def test_by_the_machine_as_it_is_now(self):
        machine = vessel()
        twin = machine.twin()
        lot = behind(machine, (1,))
        machine.shut(1)
        self.assertRaises(NoDoor, behind, machine, (1,))
        self.assertEqual(behind(twin, (1,)), lot)
        self.assertEqual(lot, between(0, 11))

    def test_a_run_in_more_levels(self):
        plan = Plan(2)
        plan.rooms["a"] = ([((1, 1), 6)], [(1, 0), (0, 1)])
        plan.doors[1] = ("a", "a", "swap", [((-1, 0), -3)], [((0, 1), 0), ((1, 0), -3)])
        plan.begins.append(("a", [((1, 0), 0), ((-1, 0), 0), ((0, 1), 0), ((0, -1), 0)]))
        run = run_by(build(plan), state_of(Fraction(1, 3), Fraction(1, 2)), (1,))
        self.assertEqual(walk(plan, run)[1][:2], ("a", ((1, 3), (1, 2))))


if __name__ == "__main__":
    unittest.main()
