import random
import unittest
from fractions import Fraction

from slopeyard.errors import Broken
from slopeyard.machine import Machine
from slopeyard.runs import run_end, run_fault
from tests.machines import build, random_plan, told, walk
from tests.reckoning import state_of

BIG = 10 ** 20 - 1
NOUGHT = [(0, 1)]


def small():
    """One level: it rises in `fill` up to 10, falls in `drain` down to 2, at either of two speeds."""
    machine = Machine(1)
    machine.add_room("fill", [((1,), 10)], [(3,)])
    machine.add_room("drain", [((-1,), -2)], [(-1,), (-2,)])
    machine.add_door("fill", "drain", "turn", [((-1,), -8)], [((1,), -1)])
    machine.add_door("drain", "fill", "back", [((1,), 4)], [((1,), 0)])
    machine.add_begin("fill", [((1,), 1), ((-1,), 0)])
    machine.add_begin("drain", [])
    return machine


class RunCase(unittest.TestCase):
    def ends(self, machine, run, room, state, moment):
        self.assertIsNone(run_fault(machine, run))
        end = run_end(machine, run)
        self.assertEqual(end, (room, state, moment))
        self.assertEqual([type(one) for one in (end, end[1], end[1][0], end[2])], [tuple] * 4)

    def breaks(self, machine, run, fault):
        ahead = told(machine)
        self.assertEqual(run_fault(machine, run), fault)
        self.assertIs(type(run_fault(machine, run)), tuple)
        with self.assertRaises(Broken) as caught:
            run_end(machine, run)
        self.assertEqual(caught.exception.at, fault)
        self.assertEqual(told(machine), ahead)


class WalkedTest(RunCase):
    def test_no_door(self):
        self.ends(small(), (0, ((0, 1),), [[(2, 1)]]), "fill", ((6, 1),), (2, 1))
        self.ends(small(), (1, ((9, 2),), [[(1, 2), (1, 3)]]), "drain", ((10, 3),), (5, 6))

    def test_one_door_and_more(self):
        machine = small()
        run = (0, ((1, 2),), [[(5, 2)], 1, [(0, 1), (1, 2)], 2])
        self.ends(machine, (0, ((1, 2),), [[(5, 2)], 1, [(0, 1), (1, 2)]]), "drain", ((6, 1),), (3, 1))
        steps = [[(5, 2)], 1, [(1, 1), (1, 1)], 2, [(2, 1)], 1, [(5, 1), (0, 1)], 2, NOUGHT]
        self.ends(machine, (0, ((1, 2),), steps[:3]), "drain", ((4, 1),), (9, 2))
        self.ends(machine, (0, ((1, 2),), steps[:5]), "fill", ((10, 1),), (13, 2))
        self.ends(machine, (0, ((1, 2),), steps[:7]), "drain", ((4, 1),), (23, 2))
        self.ends(machine, (0, ((1, 2),), steps), "fill", ((4, 1),), (23, 2))
        self.breaks(machine, (0, run[1], run[2] + [NOUGHT]), ("step", 3))

    def test_stays_of_no_length(self):
        self.ends(small(), (0, ((1, 1),), [NOUGHT]), "fill", ((1, 1),), (0, 1))
        self.ends(small(), (0, ((1, 1),), [[(0, 7)]]), "fill", ((1, 1),), (0, 1))
        steps = [[(0, 1), (0, 5)], 2, NOUGHT]
        self.ends(small(), (1, ((4, 1),), steps), "fill", ((4, 1),), (0, 1))

    def test_fractions_that_are_not_in_lowest_terms(self):
        self.ends(small(), (0, ((2, 4),), [[(6, 12)]]), "fill", ((2, 1),), (1, 2))
        self.ends(small(), (1, ((12, 2),), [[(2, 4), (2, 4)]]), "drain", ((9, 2),), (1, 1))
        self.ends(small(), (0, ((0, 9),), [[(0, 9)]]), "fill", ((0, 1),), (0, 1))
        self.ends(small(), (0, ((3, 6),), [[(0, 4)]]), "fill", ((1, 2),), (0, 1))

    def test_great_fractions(self):
        self.ends(small(), (0, ((1, BIG),), [[(1, BIG - 1)]]), "fill",
                  state_of(Fraction(1, BIG) + Fraction(3, BIG - 1)), (1, BIG - 1))
        self.ends(small(), (1, ((BIG, 1),), [[(BIG - 2, 1), (0, 1)]]), "drain", ((2, 1),), (BIG - 2, 1))

    def test_by_name_and_with_tuples(self):
        run = (0, ((1, 2),), (((5, 2),), 1, ((0, 1), (1, 2))))
        self.assertIsNone(run_fault(run=run, machine=small()))
        self.assertEqual(run_end(run=run, machine=small()), ("drain", ((6, 1),), (3, 1)))

    def test_more_levels(self):
        machine = Machine(3)
        machine.add_room("a", [((1, 1, 1), 9)], [(1, 2, 3), (-1, 0, 0), (0, 0, -2)])
        machine.add_door("a", "a", "mix", [], [((0, 1, 0), 1), ((1, 0, 0), -1), ((1, 1, 1), 0)])
        machine.add_begin("a", [])
        steps = [[(1, 1), (1, 2), (1, 1)], 1, [(0, 1), (0, 1), (2, 1)]]
        self.ends(machine, (0, ((0, 1), (0, 1), (0, 1)), steps[:1]), "a", state_of(Fraction(1, 2), 2, 1), (5, 2))
        self.ends(machine, (0, ((0, 1), (0, 1), (0, 1)), steps), "a",
                  state_of(3, Fraction(-1, 2), Fraction(-1, 2)), (9, 2))


class BeginFaultsTest(RunCase):
    def test_no_such_beginning(self):
        for begin in (-1, -2, 2, 3, BIG, -BIG):
            self.breaks(small(), (begin, ((5, 1),), [NOUGHT]), ("begin", begin))
        self.breaks(Machine(1), (0, ((5, 1),), [NOUGHT]), ("begin", 0))

    def test_a_state_of_another_count(self):
        for state in ((), ((1, 1), (1, 1)), ((1, 1),) * 8):
            self.breaks(small(), (0, state, [NOUGHT]), ("begin", 0))
            self.breaks(small(), (7, state, [NOUGHT]), ("begin", 7))

    def test_a_state_that_is_not_in_it(self):
        machine = small()
        self.ends(machine, (0, ((1, 1),), [NOUGHT]), "fill", ((1, 1),), (0, 1))
        self.breaks(machine, (0, ((BIG, BIG - 1),), [NOUGHT]), ("begin", 0))
        self.breaks(machine, (0, ((-1, BIG),), [NOUGHT]), ("begin", 0))

    def test_a_state_that_is_not_in_its_room(self):
        machine = small()
        machine.add_begin("fill", [])
        self.ends(machine, (1, ((2, 1),), [[(0, 1), (0, 1)]]), "drain", ((2, 1),), (0, 1))
        self.breaks(machine, (1, ((BIG * 2 - 1, BIG),), [[(0, 1), (0, 1)]]), ("begin", 1))
        self.ends(machine, (2, ((-100, 1),), [NOUGHT]), "fill", ((-100, 1),), (0, 1))
        self.breaks(machine, (2, ((11, 1),), [NOUGHT]), ("begin", 2))

    def test_it_goes_ahead_of_the_steps(self):
        self.breaks(small(), (0, ((2, 1),), [[(-1, 1)], 9, []]), ("begin", 0))


class StepFaultsTest(RunCase):
    def test_times_below_nought(self):
        self.breaks(small(), (0, ((1, 1),), [[(-1, 3)]]), ("step", 0))
        self.breaks(small(), (0, ((1, 1),), [[(-1, BIG)]]), ("step", 0))
        self.breaks(small(), (1, ((5, 1),), [[(1, 1), (-1, 2)]]), ("step", 0))
        self.breaks(small(), (1, ((5, 1),), [[(-1, 2), (1, 1)]]), ("step", 0))

    def test_times_of_another_count(self):
        for times in ([], [(1, 1), (0, 1)], [(0, 1)] * 4):
            self.breaks(small(), (0, ((1, 1),), [times]), ("step", 0))
        for times in ([], [(1, 1)], [(0, 1)] * 3):
            self.breaks(small(), (1, ((9, 1),), [times]), ("step", 0))

    def test_stays_just_to_a_bound_and_beyond(self):
        self.ends(small(), (0, ((1, 1),), [[(3, 1)]]), "fill", ((10, 1),), (3, 1))
        self.breaks(small(), (0, ((1, 1),), [[(3 * BIG + 1, BIG)]]), ("step", 0))
        self.ends(small(), (1, ((5, 1),), [[(1, 1), (1, 1)]]), "drain", ((2, 1),), (2, 1))
        self.breaks(small(), (1, ((5, 1),), [[(1, 1), (BIG + 1, BIG)]]), ("step", 0))

    def test_a_stay_is_let_by_its_two_ends_alone(self):
        machine = Machine(2)
        machine.add_room("a", [((1, 0), 1), ((-1, 0), 0)], [(5, 0), (-5, 1)])
        machine.add_begin("a", [])
        self.ends(machine, (0, ((1, 2), (0, 1)), [[(9, 1), (9, 1)]]), "a", state_of(Fraction(1, 2), 9), (18, 1))
        self.breaks(machine, (0, ((1, 2), (0, 1)), [[(9, 1), (8, 1)]]), ("step", 0))

    def test_doors_that_are_not_there(self):
        for number in (0, 3, -1, BIG, -BIG):
            self.breaks(small(), (0, ((0, 1),), [NOUGHT, number, NOUGHT]), ("step", 1))
        machine = small()
        run = (0, ((1, 2),), [[(5, 2)], 1, [(0, 1), (1, 2)]])
        self.assertIsNone(run_fault(machine, run))
        machine.shut(1)
        self.breaks(machine, run, ("step", 1))
        machine.add_door("fill", "drain", "turn", [], [((1,), 0)])
        self.breaks(machine, run, ("step", 1))

    def test_a_door_of_another_room(self):
        self.breaks(small(), (0, ((0, 1),), [NOUGHT, 2, NOUGHT]), ("step", 1))
        self.breaks(small(), (1, ((9, 1),), [[(0, 1), (0, 1)], 1, [(0, 1), (0, 1)]]), ("step", 1))

    def test_a_doors_rows_just_kept_and_broken(self):
        stay = [(0, 1), (0, 1)]
        self.ends(small(), (1, ((4, 1),), [stay, 2, NOUGHT]), "fill", ((4, 1),), (0, 1))
        self.breaks(small(), (1, ((4 * BIG + 1, BIG),), [stay, 2, NOUGHT]), ("step", 1))

    def test_the_rows_of_the_room_behind_a_door(self):
        for plus, let in ((-3, True), (-4, False), (2, True), (3, True)):
            machine = small()
            number = machine.add_door("drain", "drain", "down", [], [((1,), plus)])
            run = (1, ((5, 1),), [[(0, 1), (0, 1)], number, [(0, 1), (0, 1)]])
            self.assertEqual(run_fault(machine, run), None if let else ("step", 1))
        machine = small()
        number = machine.add_door("fill", "fill", "up", [], [((9,), 1)])
        self.ends(machine, (0, ((1, 1),), [NOUGHT, number, NOUGHT]), "fill", ((10, 1),), (0, 1))
        run = (0, ((1, 1),), [NOUGHT, number, NOUGHT, number, NOUGHT])
        self.breaks(machine, run, ("step", 3))
        # The stay behind it can't make good what the door breaks.
        machine = Machine(1)
        machine.add_room("a", [((1,), 0)], [(-1,)])
        machine.add_door("a", "a", "up", [], [((1,), 1)])
        machine.add_begin("a", [])
        self.ends(machine, (0, ((-1, 1),), [NOUGHT, 1, [(1, 1)]]), "a", ((-1, 1),), (1, 1))
        self.breaks(machine, (0, ((0, 1),), [NOUGHT, 1, [(1, 1)]]), ("step", 1))

    def test_the_first_fault_is_told(self):
        machine = small()
        run = (0, ((1, 2),), [[(5, 2)], 1, [(-1, 1), (1, 1)], 1, [(1, 1)]])
        self.breaks(machine, run, ("step", 2))
        self.breaks(machine, (0, ((1, 2),), [[(5, 2)], 9, [(-1, 1)], 9, []]), ("step", 1))
        self.breaks(machine, (0, ((1, 2),), [[(5, 2)], 1, [(1, 1), (1, 1)], 2, [(3, 1)], 7, []]), ("step", 4))


class OwnWalkingTest(RunCase):
    def some_run(self, source, plan, many):
        """A run by so many doors, or fewer where no more are found."""
        for _ in range(40):
            begin = source.randrange(len(plan.begins))
            state = tuple((source.randint(-6, 6), source.randint(1, 4)) for _ in range(plan.count))
            room = plan.begins[begin][0]
            run = self.with_stay(source, plan, (begin, state, []), room)
            if run is None:
                continue
            for _ in range(many):
                room = walk(plan, run)[1][0]
                ways = [number for number, door in plan.doors.items() if door[0] == room
                        and walk(plan, (run[0], run[1], run[2] + [number]))[0] is None]
                if not ways:
                    break
                number = source.choice(ways)
                run = self.with_stay(source, plan, (run[0], run[1], run[2] + [number]), plan.doors[number][1])
            return run
        return None

    def with_stay(self, source, plan, run, room):
        many = len(plan.rooms[room][1])
        stays = [[(source.randint(0, 5), source.randint(1, 4)) for _ in range(many)] for _ in range(4)]
        for stay in stays + [[(0, source.randint(1, 4))] * many]:
            longer = (run[0], run[1], run[2] + [stay])
            if walk(plan, longer)[0] is None:
                return longer
        return None

    def changed(self, source, run):
        begin, state, steps = run
        steps = [step if isinstance(step, int) else list(step) for step in steps]
        place = source.randrange(len(steps))
        if source.random() < 0.2:
            return (begin + source.choice([-1, 1]), state, steps)
        if source.random() < 0.2:
            return (begin, tuple((num + source.choice([-5, 5]), den) for num, den in state), steps)
        if isinstance(steps[place], int):
            steps[place] += source.choice([-1, 1])
        elif source.random() < 0.3:
            steps[place] = (steps[place] + NOUGHT)[source.randint(0, 1) * 2:]
        else:
            spot = source.randrange(len(steps[place]))
            num, den = steps[place][spot]
            steps[place][spot] = (num + source.choice([-1, 1, 9]), den)
        return (begin, state, steps)

    def test_random(self):
        source = random.Random(71)
        doors, faults = [0] * 5, {}
        for _ in range(300):
            plan = random_plan(source)
            machine = build(plan)
            run = self.some_run(source, plan, source.randint(0, 4))
            if run is None:
                continue
            doors[len(run[2]) // 2] += 1
            for one in [run] + [self.changed(source, run) for _ in range(6)]:
                fault, end = walk(plan, one)
                if fault is None:
                    self.ends(machine, one, *end)
                else:
                    faults[fault[0]] = faults.get(fault[0], 0) + 1
                    self.breaks(machine, one, fault)
        self.assertGreater(min(doors), 5)
        self.assertGreater(min(faults["begin"], faults["step"]), 100)


class CopiesTest(RunCase):
    def test_what_is_handed_in_stays_and_asking_twice_tells_the_same(self):
        machine = small()
        steps = [[(10, 4)], 1, [(0, 1), (2, 4)]]
        run = (0, ((2, 4),), steps)
        ahead = told(machine)
        for _ in range(2):
            self.assertIsNone(run_fault(machine, run))
            self.assertEqual(run_end(machine, run), ("drain", ((6, 1),), (3, 1)))
        self.assertEqual(run, (0, ((2, 4),), [[(10, 4)], 1, [(0, 1), (2, 4)]]))
        self.assertEqual(told(machine), ahead)
        steps[1] = 2
        for _ in range(2):
            self.breaks(machine, run, ("step", 1))
        self.assertEqual(run, (0, ((2, 4),), [[(10, 4)], 2, [(0, 1), (2, 4)]]))

    def test_it_goes_by_the_machine_as_it_is_now(self):
        machine, run = small(), (2, ((5, 1),), [NOUGHT])
        twin = machine.twin()
        self.breaks(machine, run, ("begin", 2))
        machine.add_begin("fill", [])
        self.assertIsNone(run_fault(machine, run))
        self.breaks(twin, run, ("begin", 2))


if __name__ == "__main__":
    unittest.main()
