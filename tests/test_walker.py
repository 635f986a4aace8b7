import random
import unittest
from fractions import Fraction

from slopeyard.errors import BadState, BadTimes, NoRoom, SlopeError, Stuck, Wandering, Whirling
from slopeyard.machine import Machine
from slopeyard.walker import Walker
from tests.machines import build, told
from tests.reckoning import keeps, pair, state_of, value
from tests.walking import OwnWalker, walked_plan

BIG = 10 ** 20 - 1
AS_IT_IS = [((1,), 0)]


def vessel():
    """It rises by three up to 10, and falls by one (or two) down to 4: a round of 2 and of 6, by two doors."""
    machine = Machine(1)
    machine.add_room("fill", [((1,), 12)], [(3,)])
    machine.add_room("drain", [((-1,), 0)], [(-1,), (-2,)])
    machine.add_door("fill", "drain", "turn", [((-1,), -10)], AS_IT_IS)
    machine.add_door("drain", "fill", "back", [((1,), 4)], AS_IT_IS)
    return machine


def standing(walker):
    return walker.place(), walker.moment(), walker.taken()


class OwnWalkerOfVessel:
    """Where he stands in the vessel after a time, from a level of drain on, by a plain formula."""

    def __init__(self, level):
        self.level = level

    def led(self, time):
        moment, taken = time, 0
        fall = self.level - 4
        if time < fall:
            return ("drain", (pair(self.level - time),)), pair(moment), 0
        time, taken = time - fall, 1
        rounds, rest = divmod(time, 8)
        taken += 2 * int(rounds)
        if rest < 2:
            return ("fill", (pair(4 + 3 * rest),)), pair(moment), taken
        return ("drain", (pair(12 - rest),)), pair(moment), taken + 1


class WalkerCase(unittest.TestCase):
    def stands(self, walker, room, state, moment, taken):
        for _ in range(2):
            self.assertEqual(standing(walker), ((room, state), moment, taken))
        self.assertEqual([type(walker.place()), type(walker.place()[1]), type(walker.moment())], [tuple] * 3)

    def refused(self, error, walker, time):
        ahead = standing(walker)
        for _ in range(2):
            self.assertRaises(error, walker.led, time)
            self.assertEqual(standing(walker), ahead)


class LedTest(WalkerCase):
    def test_no_door(self):
        walker = Walker(vessel(), "fill", ((2, 4),))
        self.stands(walker, "fill", ((1, 2),), (0, 1), 0)
        self.assertIsNone(walker.led((2, 4)))
        self.stands(walker, "fill", ((2, 1),), (1, 2), 0)
        walker.led(time=(0, 7))
        self.stands(walker, "fill", ((2, 1),), (1, 2), 0)

    def test_by_the_first_slope(self):
        walker = Walker(vessel(), "drain", ((9, 1),))
        walker.led((3, 1))
        self.stands(walker, "drain", ((6, 1),), (3, 1), 0)

    def test_at_the_first_moment_at_which_a_door_can_be_taken(self):
        walker = Walker(vessel(), "fill", ((4, 1),))
        walker.led((2 * BIG - 1, BIG))
        self.stands(walker, "fill", state_of(10 - Fraction(3, BIG)), (2 * BIG - 1, BIG), 0)
        walker.led((1, BIG))
        self.stands(walker, "drain", ((10, 1),), (2, 1), 1)
        walker.led((5, 1))
        self.stands(walker, "drain", ((5, 1),), (7, 1), 1)
        walker.led((3, 2))
        self.stands(walker, "fill", ((11, 2),), (17, 2), 2)

    def test_doors_at_the_last_moment_are_taken(self):
        walker = Walker(vessel(), "fill", ((4, 1),))
        walker.led((8, 1))
        self.stands(walker, "fill", ((4, 1),), (8, 1), 2)
        walker = Walker(vessel(), "fill", ((10, 1),))
        walker.led((0, 1))
        self.stands(walker, "drain", ((10, 1),), (0, 1), 1)

    def test_of_several_doors_the_least_number(self):
        machine = vessel()
        machine.shut(1)
        machine.add_door("fill", "drain", "x", [((-1,), -9)], [((0,), 9)])
        machine.add_door("fill", "drain", "x", [((-1,), -9)], [((0,), 8)])
        machine.add_door("fill", "drain", "x", [((-1,), -8), ((1,), 8)], [((0,), 7)])
        walker = Walker(machine, "fill", ((6, 1),))
        walker.led((2, 3))
        self.stands(walker, "drain", ((7, 1),), (2, 3), 1)
        walker = Walker(machine, "fill", ((17, 2),))
        walker.led((1, 6))
        self.stands(walker, "drain", ((9, 1),), (1, 6), 1)
        machine.shut(3)
        walker = Walker(machine, "fill", ((17, 2),))
        walker.led((1, 6))
        self.stands(walker, "drain", ((8, 1),), (1, 6), 1)

    def test_a_door_whose_room_behind_it_lets_it_later(self):
        machine = Machine(1)
        machine.add_room("a", [], [(1,)])
        machine.add_room("b", [((-1,), -5)], [(0,)])
        machine.add_door("a", "b", "x", [((-1,), -1)], [((2,), 1)])
        walker = Walker(machine, "a", ((0, 1),))
        walker.led((3, 2))
        self.stands(walker, "a", ((3, 2),), (3, 2), 0)
        walker.led((1, 2))
        self.stands(walker, "b", ((5, 1),), (2, 1), 1)

    def test_a_door_that_can_be_taken_in_passing_alone(self):
        machine = Machine(2)
        machine.add_room("a", [], [(1, 2)])
        machine.add_door("a", "a", "x", [((1, -1), 0), ((-1, 1), 0)], [((0, 0), 100), ((0, 1), 0)])
        walker = Walker(machine, "a", state_of(1, 0))
        walker.led((1, 1))
        self.stands(walker, "a", state_of(100, 2), (1, 1), 1)

    def test_further_doors_at_the_same_moment(self):
        machine = Machine(1)
        for name in "abcd":
            machine.add_room(name, [], [(1,)])
        machine.add_door("a", "b", "x", [((-1,), -3)], AS_IT_IS)
        machine.add_door("b", "c", "x", [], [((1,), 1)])
        machine.add_door("c", "d", "x", [], [((2,), 0)])
        walker = Walker(machine, "a", ((0, 1),))
        walker.led((3, 1))
        self.stands(walker, "d", ((8, 1),), (3, 1), 3)
        walker = Walker(machine, "a", ((3, 1),))
        walker.led((1, 2))
        self.stands(walker, "d", ((17, 2),), (1, 2), 3)

    def test_the_same_time_in_parts(self):
        times = [(1, 3), (5, 2), (0, 1), (7, 1), (11, 4), (100, 3)]
        whole, parts = Walker(vessel(), "fill", ((0, 1),)), Walker(vessel(), "fill", ((0, 1),))
        for time in times:
            parts.led(time)
        whole.led(pair(sum(value(time) for time in times)))
        self.assertEqual(standing(whole), standing(parts))
        self.assertGreater(whole.taken(), 10)

    def test_the_rooms_end_and_a_door_at_it(self):
        machine = Machine(1)
        machine.add_room("a", [((1,), 3)], [(1,)])
        machine.add_room("b", [], [(1,)])
        machine.add_door("a", "b", "x", [((-1,), -3)], AS_IT_IS)
        walker = Walker(machine, "a", ((0, 1),))
        walker.led((4, 1))
        self.stands(walker, "b", ((4, 1),), (4, 1), 1)


class StuckTest(WalkerCase):
    def test_just_to_the_end_and_beyond(self):
        machine = vessel()
        machine.shut(1)
        walker = Walker(machine, "fill", ((0, 1),))
        self.refused(Stuck, walker, (4 * BIG + 1, BIG))
        self.refused(Stuck, walker, (BIG, 1))
        walker.led((4, 1))
        self.stands(walker, "fill", ((12, 1),), (4, 1), 0)
        self.refused(Stuck, walker, (1, BIG))
        walker.led((0, 1))
        self.stands(walker, "fill", ((12, 1),), (4, 1), 0)

    def test_doors_that_could_be_taken_beyond_the_rooms_end_alone(self):
        machine = vessel()
        machine.shut(1)
        machine.add_door("fill", "drain", "late", [((-1,), -13)], AS_IT_IS)
        self.refused(Stuck, Walker(machine, "fill", ((0, 1),)), (5, 1))
        machine.add_door("fill", "drain", "last", [((-1,), -12)], AS_IT_IS)
        walker = Walker(machine, "fill", ((0, 1),))
        walker.led((5, 1))
        self.stands(walker, "drain", ((11, 1),), (5, 1), 1)

    def test_doors_that_the_room_behind_does_not_let(self):
        machine = Machine(1)
        machine.add_room("a", [((1,), 3)], [(1,)])
        machine.add_room("b", [((1,), -1)], [(0,)])
        machine.add_door("a", "b", "x", [], AS_IT_IS)
        self.refused(Stuck, Walker(machine, "a", ((0, 1),)), (7, 2))

    def test_behind_some_doors_all_is_as_ahead(self):
        machine = vessel()
        machine.add_room("end", [((-1,), -9)], [(-1,)])
        machine.shut(1)
        machine.add_door("fill", "end", "turn", [((-1,), -10)], AS_IT_IS)
        walker = Walker(machine, "fill", ((1, 1),))
        walker.led((1, 1))
        self.refused(Stuck, walker, (7, 2))
        walker.led((3, 1))
        self.stands(walker, "end", ((9, 1),), (4, 1), 1)


class WhirlingTest(WalkerCase):
    def test_a_door_to_where_he_stands(self):
        machine = Machine(1)
        machine.add_room("a", [], [(1,)])
        machine.add_door("a", "a", "x", [((-1,), -3)], AS_IT_IS)
        walker = Walker(machine, "a", ((0, 1),))
        self.refused(Whirling, walker, (3, 1))
        walker.led((3 * BIG - 1, BIG))
        self.refused(Whirling, walker, (1, BIG))
        self.refused(Whirling, Walker(machine, "a", ((3, 1),)), (0, 1))

    def test_a_round_of_several_doors(self):
        machine = Machine(1)
        for name in "abc":
            machine.add_room(name, [], [(1,)])
        for first, behind, more in [("a", "b", 1), ("b", "c", 1), ("c", "b", -1)]:
            machine.add_door(first, behind, "x", [((-1,), -3)], [((1,), more)])
        self.refused(Whirling, Walker(machine, "a", ((0, 1),)), (9, 1))
        self.refused(Whirling, Walker(machine, "c", ((4, 1),)), (0, 1))
        self.refused(Whirling, Walker(machine, "b", ((4, 1),)), (0, 1))
        walker = Walker(machine, "c", ((3, 1),))
        walker.led((0, 1))
        self.stands(walker, "b", ((2, 1),), (0, 1), 1)

    def test_the_same_room_in_other_states_does_not_whirl(self):
        machine = Machine(1)
        machine.add_room("a", [], [(0,)])
        machine.add_door("a", "a", "x", [((1,), 59)], [((1,), 1)])
        walker = Walker(machine, "a", ((0, 1),))
        walker.led((0, 1))
        self.stands(walker, "a", ((60, 1),), (0, 1), 60)


class WanderingTest(WalkerCase):
    def counter(self, most, along=0):
        machine = Machine(1)
        machine.add_room("a", [], [(along,)])
        machine.add_door("a", "a", "x", [((1,), most)], [((1,), 1)])
        return machine

    def test_sixty_doors_and_one_more(self):
        walker = Walker(self.counter(59), "a", ((0, 1),))
        walker.led((5, 1))
        self.stands(walker, "a", ((60, 1),), (5, 1), 60)
        self.refused(Wandering, Walker(self.counter(60), "a", ((0, 1),)), (0, 1))
        self.refused(Wandering, Walker(self.counter(60), "a", ((0, 1),)), (5, 1))

    def test_of_one_leading_each(self):
        machine = Machine(2)
        machine.add_room("a", [], [(1, 0)])
        machine.add_door("a", "a", "x", [((-1, 0), -1)], [((0, 0), 0), ((0, 1), 1)])
        walker = Walker(machine, "a", state_of(0, 0))
        self.refused(Wandering, walker, (61, 1))
        walker.led((121, 2))
        self.stands(walker, "a", state_of(Fraction(1, 2), 60), (121, 2), 60)
        self.refused(Wandering, walker, (121, 2))
        walker.led((119, 2))
        self.stands(walker, "a", state_of(0, 120), (120, 1), 120)
        self.refused(Wandering, walker, (61, 1))
        walker.led((60, 1))
        self.stands(walker, "a", state_of(0, 180), (180, 1), 180)

    def test_what_is_due_first(self):
        machine = self.counter(59)
        machine.add_room("b", [], [(0,)])
        # Behind sixty doors: round and round at b, or no more.
        machine.add_door("a", "b", "x", [((-1,), -60)], AS_IT_IS)
        machine.add_door("b", "b", "x", [], AS_IT_IS)
        self.refused(Wandering, Walker(machine, "a", ((0, 1),)), (0, 1))
        self.refused(Whirling, Walker(machine, "a", ((2, 1),)), (0, 1))
        self.refused(Wandering, Walker(machine, "a", ((1, 1),)), (0, 1))
        machine = self.counter(58)
        machine.add_room("c", [((1,), 59)], [(1,)])
        machine.add_door("a", "c", "x", [((-1,), -59)], AS_IT_IS)
        self.refused(Stuck, Walker(machine, "a", ((0, 1),)), (1, 9))
        walker = Walker(machine, "a", ((0, 1),))
        walker.led((0, 1))
        self.stands(walker, "c", ((59, 1),), (0, 1), 60)


class RoundsTest(WalkerCase):
    def test_leapt_over_many_times(self):
        walker = Walker(vessel(), "fill", ((4, 1),))
        walker.led((8 * BIG + 2, 1))
        self.stands(walker, "drain", ((10, 1),), (8 * BIG + 2, 1), 2 * BIG + 1)
        walker.led((BIG, 1))
        moment = 9 * BIG + 2
        taken, rest = divmod(moment, 8)
        self.assertEqual(rest, 1)
        self.stands(walker, "fill", ((7, 1),), (moment, 1), 2 * taken)

    def test_as_often_as_it_fits(self):
        for rounds in (0, 1, 2, 3, 50):
            for rest, room, level, more in [(0, "fill", 4, 0), (1, "fill", 7, 0), (2, "drain", 10, 1),
                                            (7, "drain", 5, 1)]:
                walker = Walker(vessel(), "fill", ((4, 1),))
                walker.led((8 * rounds + rest, 1))
                self.stands(walker, room, ((level, 1),), (8 * rounds + rest, 1), 2 * rounds + more)

    def test_from_within_a_round(self):
        walker = Walker(vessel(), "drain", ((7, 1),))
        walker.led((10 ** 19, 1))
        other = OwnWalkerOfVessel(Fraction(7))
        self.assertEqual(standing(walker), other.led(Fraction(10 ** 19)))
        walker = Walker(vessel(), "drain", ((BIG, 7),))
        walker.led((BIG * BIG, 1))
        self.assertEqual(standing(walker), OwnWalkerOfVessel(Fraction(BIG, 7)).led(Fraction(BIG * BIG)))

    def ring(self, many, ahead):
        """So many doors ahead of a round of so many doors, each at its own moment."""
        machine = Machine(2)
        machine.add_room("a", [], [(1, 0)])
        machine.add_door("a", "a", "x", [((-1, 0), -1), ((0, 1), ahead + many - 2)], [((0, 0), 0), ((0, 1), 1)])
        machine.add_door("a", "a", "x", [((-1, 0), -1), ((0, -1), -(ahead + many - 1))], [((0, 0), 0), ((0, 0), ahead)])
        return Walker(machine, "a", state_of(0, 0))

    def test_rounds_of_up_to_sixty_doors(self):
        for many, ahead in [(1, 0), (2, 0), (59, 0), (60, 0), (30, 30), (1, 59), (58, 2)]:
            walker = self.ring(many, ahead)
            walker.led((10 ** 20 - 1, 1))
            level = ahead + (10 ** 20 - 1 - ahead) % many
            self.stands(walker, "a", state_of(0, level), (10 ** 20 - 1, 1), 10 ** 20 - 1)
        for many, ahead in [(61, 0), (31, 30), (2, 59), (1, 60)]:
            self.refused(Wandering, self.ring(many, ahead), (10 ** 20 - 1, 1))
            walker = self.ring(many, ahead)
            walker.led((60, 1))
            self.assertEqual(walker.taken(), 60)

    def test_none_is_counted_behind_a_round_that_does_not_fit(self):
        walker = self.ring(2, 58)
        walker.led((61, 1))
        self.stands(walker, "a", state_of(0, 59), (61, 1), 61)
        walker = self.ring(2, 58)
        walker.led((60, 1))
        walker.led((60, 1))
        self.assertEqual(walker.taken(), 120)
        walker = self.ring(40, 20)
        walker.led((30, 1))
        # Led from here he comes to where he began after forty doors, and twenty more are none of sixty.
        walker.led((99, 1))
        self.assertEqual(walker.taken(), 129)

    def test_in_several_leads_he_may_wander(self):
        machine = Machine(2)
        machine.add_room("a", [], [(1, 0)])
        machine.add_room("b", [], [(0, 0)])
        machine.add_door("a", "a", "x", [((-1, 0), -1), ((0, 1), 8)], [((0, 0), 0), ((0, 1), 1)])
        machine.add_door("a", "a", "x", [((-1, 0), -1), ((0, -1), -9)], [((0, 0), 0), ((0, 0), 0)])
        walker = Walker(machine, "a", state_of(0, 0))
        walker.led((1000, 1))
        self.stands(walker, "a", state_of(0, 0), (1000, 1), 1000)
        ring = self.ring(60, 0)
        ring.led((1, 2))
        # He stands where no door leads: the round is known behind the first door alone, the sixty-first one comes.
        self.refused(Wandering, ring, (61, 1))
        ring.led((60, 1))
        ring.led((119, 2))
        self.stands(ring, "a", state_of(0, 0), (120, 1), 120)

    def test_doors_at_one_moment_within_a_round(self):
        machine = Machine(1)
        machine.add_room("a", [], [(1,)])
        machine.add_room("b", [], [(1,)])
        machine.add_door("a", "b", "x", [((-1,), -2)], [((1,), 5)])
        machine.add_door("b", "a", "x", [], [((0,), 0)])
        walker = Walker(machine, "a", ((0, 1),))
        walker.led((10 ** 19 + 1, 1))
        self.stands(walker, "a", ((1, 1),), (10 ** 19 + 1, 1), 10 ** 19)
        walker.led((1, 1))
        self.stands(walker, "a", ((0, 1),), (10 ** 19 + 2, 1), 10 ** 19 + 2)


class RefusalsTest(WalkerCase):
    def test_made(self):
        machine = vessel()
        ahead = told(machine)
        self.assertRaises(NoRoom, Walker, machine, "hall", ((99, 1),))
        self.assertRaises(NoRoom, Walker, machine, "", ())
        for state in ((), ((1, 1), (1, 1)), ((25, 2),), ((12 * BIG + 1, BIG),)):
            self.assertRaises(BadState, Walker, machine, "fill", state)
        self.assertEqual(Walker(machine, "fill", ((24, 2),)).place(), ("fill", ((12, 1),)))
        machine.add_room("loose", [], [(0,)])
        self.assertRaises(BadState, Walker, machine, "loose", ((1, 1), (1, 1)))
        machine.raze("loose")
        self.assertEqual(told(machine), ahead)

    def test_times_below_nought_ahead_of_all_else(self):
        machine = vessel()
        machine.add_door("fill", "fill", "x", [], AS_IT_IS)
        walker = Walker(machine, "fill", ((1, 1),))
        for time in ((-1, 1), (-1, BIG), (-BIG, 1)):
            self.refused(BadTimes, walker, time)
        self.refused(Whirling, walker, (0, 1))

    def test_by_the_machine_as_it_was(self):
        machine = vessel()
        walker = Walker(machine=machine, room="fill", state=((4, 1),))
        machine.shut(1)
        machine.add_door("fill", "fill", "x", [], AS_IT_IS)
        walker.led((8, 1))
        self.stands(walker, "fill", ((4, 1),), (8, 1), 2)
        other = Walker(machine, "drain", ((4, 1),))
        self.refused(Whirling, other, (1, 1))
        self.stands(walker, "fill", ((4, 1),), (8, 1), 2)

    def test_two_walkers_go_their_own_ways(self):
        machine = vessel()
        one, other = Walker(machine, "fill", ((4, 1),)), Walker(machine, "fill", ((4, 1),))
        ahead = told(machine)
        one.led((3, 1))
        self.stands(other, "fill", ((4, 1),), (0, 1), 0)
        self.stands(one, "drain", ((9, 1),), (3, 1), 1)
        self.assertEqual(told(machine), ahead)


class OwnGoingTest(WalkerCase):
    def test_random(self):
        source = random.Random(121)
        answers, leapt = {}, 0
        for _ in range(1500):
            plan = walked_plan(source)
            room = source.choice(list(plan.rooms))
            state = tuple((source.randint(-4, 4), source.choice([1, 1, 2, 4])) for _ in range(plan.count))
            if not keeps(plan.rooms[room][0], state):
                continue
            walker, own = Walker(build(plan), room, state), OwnWalker(plan, room, state)
            for _ in range(source.randint(1, 4)):
                time = (source.choice([0, 1, 2, 3, 5, 8, 40, 100]), source.choice([1, 1, 2, 3]))
                answer = None
                try:
                    walker.led(time)
                except SlopeError as refusal:
                    answer = type(refusal).__name__
                self.assertEqual(answer, own.led(time))
                self.assertEqual(standing(walker), own.told())
                answers[answer] = answers.get(answer, 0) + 1
            leapt += own.taken > 60
        self.assertEqual(set(answers), {None, "Stuck", "Whirling", "Wandering"})
        self.assertGreater(min(answers.values()), 50)
        self.assertGreater(leapt, 10)


if __name__ == "__main__":
    unittest.main()
