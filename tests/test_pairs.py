import random
import unittest

from slopeyard.errors import BadCount, BadName, BadSlope, Full, SlopeError, Taken
from slopeyard.machine import Machine
from slopeyard.pairs import pair, parted
from slopeyard.runs import run_end
from slopeyard.search import Search
from tests.machines import NAMES, Plan, as_told, build, loose_rows, random_plan, told, walk
from tests.reckoning import random_sums
from tests.siding import own_pair, own_parted

AS_IT_IS = [((1,), 0)]


def left():
    machine = Machine(1)
    machine.add_room("a", [((1,), 5)], [(1,), (2,)])
    machine.add_room("b", [], [(-1,)])
    machine.add_door("a", "b", "go", [((-1,), -3)], [((1,), -1)])
    machine.add_door("b", "a", "own", [], [((2,), 0)])
    machine.add_begin("a", [((1,), 0), ((-1,), 0)])
    return machine


def right():
    machine = Machine(2)
    machine.add_room("x", [((1, 1), 9), ((-1, 0), 0)], [(0, 3), (1, 0)])
    machine.add_door("x", "x", "go", [((1, 0), 4)], [((0, 1), 0), ((1, 0), 2)])
    machine.add_door("x", "x", "mine", [], [((1, 0), 1), ((0, 1), 0)])
    machine.add_door("x", "x", "go", [], [((1, 0), 0), ((0, 0), 7)])
    machine.add_begin("x", [])
    machine.add_begin("x", [((0, 1), 2)])
    return machine


def rooms_alone(*names, count=1, slopes=1):
    machine = Machine(count)
    for name in names:
        machine.add_room(name, [], [(0,) * count] * slopes)
    return machine


def sided_plan(source):
    """A plan of which another one may stand beside."""
    names = source.choice([NAMES, ["a", "b", "a-b", "b-a"]])
    plan = random_plan(source, source.choice([1, 1, 1, 2, 2, 3]), names)
    for name, (rows, slopes) in list(plan.rooms.items()):
        plan.rooms[name] = (rows, slopes[:source.choice([1, 1, 2, 2, 4])])
    if source.random() < 0.7:
        plan.doors = {number: plan.doors[number] for number in list(plan.doors)[:4]}
    return plan


class PairTest(unittest.TestCase):
    def test_ordinary(self):
        machine = pair(left(), right())
        self.assertEqual(machine.count, 3)
        self.assertEqual(machine.rooms(), ["a-x", "b-x"])
        self.assertEqual(machine.room("a-x"), (
            [((1, 0, 0), 5), ((0, 1, 1), 9), ((0, -1, 0), 0)], [(1, 0, 3), (1, 1, 0), (2, 0, 3), (2, 1, 0)]))
        self.assertEqual(machine.room("b-x"), ([((0, 1, 1), 9), ((0, -1, 0), 0)], [(-1, 0, 3), (-1, 1, 0)]))
        self.assertEqual(machine.doors(), [1, 2, 3, 4, 5])
        self.assertEqual(machine.coming(), 6)
        self.assertEqual(machine.door(1), ("a-x", "b-x", "go", [((-1, 0, 0), -3), ((0, 1, 0), 4)],
                                           [((1, 0, 0), -1), ((0, 0, 1), 0), ((0, 1, 0), 2)]))
        self.assertEqual(machine.door(2), ("a-x", "b-x", "go", [((-1, 0, 0), -3)],
                                           [((1, 0, 0), -1), ((0, 1, 0), 0), ((0, 0, 0), 7)]))
        self.assertEqual(machine.door(3), ("b-x", "a-x", "own", [],
                                           [((2, 0, 0), 0), ((0, 1, 0), 0), ((0, 0, 1), 0)]))
        alone = [((1, 0, 0), 0), ((0, 1, 0), 1), ((0, 0, 1), 0)]
        self.assertEqual(machine.door(4), ("a-x", "a-x", "mine", [], alone))
        self.assertEqual(machine.door(5), ("b-x", "b-x", "mine", [], alone))
        self.assertEqual(machine.begins(), [("a-x", [((1, 0, 0), 0), ((-1, 0, 0), 0)]),
                                            ("a-x", [((1, 0, 0), 0), ((-1, 0, 0), 0), ((0, 0, 1), 2)])])

    def test_the_other_way_round(self):
        machine = pair(one=right(), other=left())
        self.assertEqual(machine.rooms(), ["x-a", "x-b"])
        self.assertEqual([machine.door(number)[:3] for number in machine.doors()],
                         [("x-a", "x-b", "go"), ("x-a", "x-a", "mine"), ("x-b", "x-b", "mine"),
                          ("x-a", "x-b", "go"), ("x-b", "x-a", "own")])
        self.assertEqual([rows for _, rows in machine.begins()],
                         [[((0, 0, 1), 0), ((0, 0, -1), 0)], [((0, 1, 0), 2), ((0, 0, 1), 0), ((0, 0, -1), 0)]])

    def test_numbers_of_doors_that_were_shut(self):
        one, other = left(), right()
        one.shut(1)
        other.shut(1)
        machine = pair(one, other)
        self.assertEqual([machine.door(number)[2] for number in machine.doors()],
                         ["own", "mine", "mine", "go", "go"])

    def test_a_machine_with_itself(self):
        machine = rooms_alone("a", "b")
        machine.add_door("a", "b", "x", [], AS_IT_IS)
        machine.add_door("a", "a", "x", [], AS_IT_IS)
        machine.add_door("b", "b", "y", [], AS_IT_IS)
        machine.add_begin("a", [])
        machine.add_begin("b", [])
        both = pair(machine, machine)
        self.assertEqual(both.rooms(), ["a-a", "a-b", "b-a", "b-b"])
        self.assertEqual([both.door(number)[:3] for number in both.doors()],
                         [("a-a", "b-b", "x"), ("a-a", "b-a", "x"), ("a-a", "a-b", "x"), ("a-a", "a-a", "x"),
                          ("b-b", "b-b", "y")])
        self.assertEqual([room for room, _ in both.begins()], ["a-a", "a-b", "b-a", "b-b"])

    def test_without_rooms(self):
        machine = pair(Machine(1), right())
        self.assertEqual((machine.count, machine.rooms(), machine.doors(), machine.begins(), machine.coming()),
                         (3, [], [], [], 1))
        machine = pair(Machine(2), Machine(2))
        self.assertEqual(told(machine), told(Machine(4)))

    def test_a_pair_of_a_pair(self):
        one = pair(rooms_alone("a"), rooms_alone("b"))
        machine = pair(one, rooms_alone("c-d"))
        self.assertEqual((machine.count, machine.rooms()), (3, ["a-b-c-d"]))
        self.assertEqual(pair(one, one).rooms(), ["a-b-a-b"])

    def test_longer_lists_of_rows(self):
        one = Machine(1)
        one.add_room("a", [((1,), number) for number in range(8)], [(1,)])
        one.add_begin("a", [((1,), number) for number in range(8)])
        one.add_door("a", "a", "x", [((1,), number) for number in range(8)], AS_IT_IS)
        two = pair(one, one)
        four = pair(two, two)
        self.assertEqual(len(four.room("a-a-a-a")[0]), 32)
        self.assertEqual([len(rows) for _, rows in four.begins()], [32])
        self.assertEqual(len(four.door(1)[3]), 32)

    def test_it_is_a_machine_of_its_own(self):
        one, other = left(), right()
        machine = pair(one, other)
        ahead = told(machine)
        one.shut(1)
        other.add_room("y", [], [(0, 0)])
        self.assertEqual(told(machine), ahead)
        machine.add_room("c", [], [(0, 0, 1)] * 4)
        self.assertEqual(machine.add_door("c", "c", "x", [], [((0, 0, 0), 0)] * 3), 6)
        machine.shut(2)
        self.assertEqual(one.doors(), [2])
        self.assertEqual(other.rooms(), ["x", "y"])
        self.assertEqual(pair(left(), right()), pair(left(), right()))
        self.assertNotEqual(pair(left(), right()), pair(right(), left()))

    def test_a_twin_of_a_pair_and_one_made_by_hand(self):
        machine = pair(rooms_alone("a"), rooms_alone("b"))
        by_hand = Machine(2)
        by_hand.add_room("a-b", [], [(0, 0)])
        self.assertEqual(machine, by_hand)
        self.assertEqual(machine.twin(), by_hand)


class RefusalsTest(unittest.TestCase):
    def refused(self, error, one, other):
        ahead = told(one), told(other)
        self.assertRaises(error, pair, one, other)
        self.assertEqual((told(one), told(other)), ahead)

    def test_each(self):
        self.refused(BadCount, Machine(3), Machine(2))
        self.refused(BadCount, Machine(1), Machine(4))
        self.refused(BadName, rooms_alone("a-b-c"), rooms_alone("x", "d-e"))
        self.refused(BadName, rooms_alone("a", "a-b-c-d"), rooms_alone("x"))
        self.refused(Taken, rooms_alone("a", "a-b"), rooms_alone("c", "b-c"))
        self.refused(BadSlope, rooms_alone("a", slopes=2), rooms_alone("b", slopes=3))
        self.refused(Full, rooms_alone("a", "b", "c", "d"), rooms_alone("x", "y", "z", "w"))

    def test_just_as_many_as_there_may_be(self):
        self.assertEqual(len(pair(rooms_alone("a", "b", "c", "d"), rooms_alone("x", "y", "z"))), 12)
        self.assertEqual(pair(Machine(3), Machine(1)).count, 4)
        self.assertEqual(len(pair(rooms_alone("a", slopes=2), rooms_alone("b", slopes=2)).room("a-b")[1]), 4)
        self.assertEqual(pair(rooms_alone("a-b-c"), rooms_alone("x")).rooms(), ["a-b-c-x"])

    def test_doors_and_beginnings(self):
        for words, others, many in [("xxxxx", "xxxxx", 25), ("xxxx", "xxxxxx", 24), ("abcdefgh", "ijkl", 20),
                                    ("abcdefghij", "klmn", 24), ("abcdefghij", "klmno", 25), ("x" * 24, "x", 24),
                                    ("x" * 24, "xy", 25)]:
            one, other = rooms_alone("a"), rooms_alone("p", "q")
            for word in words:
                one.add_door("a", "a", word, [], AS_IT_IS)
            for word in others:
                other.add_door("p", "q", word, [], AS_IT_IS)
            if many > 24:
                self.refused(Full, one, other)
            else:
                self.assertEqual(len(pair(one, other).doors()), many)
        for some, more in [(2, 4), (3, 3), (8, 1), (1, 8), (3, 2)]:
            one, other = rooms_alone("a"), rooms_alone("p", "q")
            for _ in range(some):
                one.add_begin("a", [])
            for _ in range(more):
                other.add_begin("q", [])
            if some * more > 8:
                self.refused(Full, one, other)
            else:
                self.assertEqual(len(pair(one, other).begins()), some * more)

    def test_doors_by_themselves_that_are_too_many(self):
        one, other = rooms_alone("a"), rooms_alone(*"pqrst")
        for word in "abcde":
            one.add_door("a", "a", word, [], AS_IT_IS)
        self.refused(Full, one, other)
        self.refused(Full, other, one)
        other.add_door("p", "p", "a", [], AS_IT_IS)
        self.assertEqual(len(pair(one, other).doors()), 21)
        one.shut(1)
        self.assertEqual(len(pair(one, other).doors()), 21)

    def test_the_one_listed_first_goes(self):
        names = ["a", "a-b", "q-r-s", "b", "c"]
        others = ["c", "b-c", "q-r-s", "d"]
        self.refused(BadCount, rooms_alone(*names, count=3, slopes=4), rooms_alone(*others, count=2, slopes=4))
        self.refused(BadName, rooms_alone(*names, slopes=4), rooms_alone(*others, slopes=4))
        self.refused(Taken, rooms_alone("a", "a-b", "b", "c", slopes=4), rooms_alone("c", "b-c", "d", "e", slopes=4))
        self.refused(BadSlope, rooms_alone(*"abcd", slopes=4), rooms_alone(*"abcd", slopes=4))
        self.refused(Full, rooms_alone(*"abcd"), rooms_alone(*"abcd"))


class OwnPuttingTogetherTest(unittest.TestCase):
    def test_random(self):
        source = random.Random(111)
        answers = {}
        for _ in range(800):
            one, other = sided_plan(source), sided_plan(source)
            if source.random() < 0.2:
                other = one
            due = own_pair(one, other)
            machines = build(one), build(other)
            try:
                machine = pair(*machines)
            except SlopeError as refusal:
                self.assertEqual(type(refusal).__name__, due)
                answers[due] = answers.get(due, 0) + 1
                continue
            answers[None] = answers.get(None, 0) + 1
            self.assertEqual(told(machine), as_told(due))
        self.assertEqual(set(answers), {None, "BadCount", "BadName", "Taken", "BadSlope", "Full"})
        self.assertGreater(min(answers.values()), 5)


class PartedTest(unittest.TestCase):
    def test_by_hand(self):
        machine = pair(left(), right())
        nought, half, one = (0, 1), (1, 2), (1, 1)
        steps = [[half, one, half, nought], 4, [(2, 6), nought, nought, half], 1, [half, nought], 5, [nought, one], 3,
                 [nought] * 4]
        run = (1, ((0, 3), (2, 4), (-8, 2)), steps)
        one_run, other_run = parted(left(), right(), run)
        self.assertEqual(one_run, (0, ((0, 1),), [[(11, 6), one], 1, [(3, 2)], 2, [nought] * 2]))
        self.assertEqual(other_run, (1, ((1, 2), (-4, 1)),
                                     [[one, one], 2, [(1, 3), half], 1, [half, nought], 2, [nought, one]]))
        self.assertEqual(run_end(machine, run)[1], run_end(left(), one_run)[1] + run_end(right(), other_run)[1])

    def test_no_door(self):
        run = (0, ((0, 1), (1, 1), (1, 1)), [[(0, 5)] * 4])
        told_runs = parted(one=left(), other=right(), run=run)
        self.assertEqual(told_runs, ((0, ((0, 1),), [[(0, 1)] * 2]), (0, ((1, 1), (1, 1)), [[(0, 1)] * 2])))
        self.assertEqual([type(one) for one in (told_runs, told_runs[0], told_runs[0][2], told_runs[0][2][0])],
                         [tuple, tuple, list, list])

    def test_doors_by_their_numbers_in_each(self):
        one, other = left(), left()
        for machine in (one, other):
            machine.shut(1)
            machine.add_door("a", "b", "go", [], AS_IT_IS)
        other.add_begin("b", [])
        machine = pair(one, other)
        stays = [[(0, 1)] * len(machine.room(room)[1]) for room in ("a-a", "b-b", "a-a")]
        run = (0, ((0, 1), (0, 1)), [stays[0], 2, stays[1], 1, stays[2]])
        self.assertEqual(run_end(machine, run)[0], "a-a")
        own = (0, ((0, 1),), [[(0, 1)] * 2, 3, [(0, 1)], 2, [(0, 1)] * 2])
        self.assertEqual(parted(one, other, run), (own, own))
        run = (1, ((0, 1), (5, 1)), [[(0, 1)] * 2])
        self.assertEqual(parted(one, other, run), ((0, ((0, 1),), [[(0, 1)] * 2]), (1, ((5, 1),), [[(0, 1)]])))

    def test_what_is_handed_in_stays(self):
        stays = [[(1, 2), (1, 2), (0, 1), (0, 1)], 4, [(1, 2), (1, 2), (0, 1), (0, 1)]]
        run = (0, ((0, 1), (1, 1), (1, 1)), stays)
        one, other = left(), right()
        first = parted(one, other, run)
        again = parted(one, other, run)
        self.assertEqual(first, again)
        first[0][2][0].append("more")
        first[1][2].append("more")
        self.assertEqual(parted(one, other, run), again)
        self.assertEqual(run[2], [[(1, 2), (1, 2), (0, 1), (0, 1)], 4, [(1, 2), (1, 2), (0, 1), (0, 1)]])
        self.assertEqual((told(one), told(other)), (told(left()), told(right())))

    def longer_plan(self, source):
        plan = Plan(source.choice([1, 1, 2]))
        for name in source.sample("abcd", 2):
            plan.rooms[name] = (loose_rows(source, plan.count, 1),
                                [tuple(source.randint(-2, 2) for _ in range(plan.count))
                                 for _ in range(source.randint(1, 2))])
        for number in range(1, source.randint(2, 4)):
            plan.doors[number] = (source.choice(list(plan.rooms)), source.choice(list(plan.rooms)),
                                  source.choice("xyz"), [], random_sums(source, plan.count, plan.count, 1))
        for _ in range(source.randint(1, 2)):
            plan.begins.append((source.choice(list(plan.rooms)), []))
        return plan

    def test_runs_that_are_found(self):
        source = random.Random(112)
        doors = 0
        for _ in range(300):
            one, other = self.longer_plan(source), self.longer_plan(source)
            both = own_pair(one, other)
            if isinstance(both, str):
                continue
            machines = build(one), build(other)
            machine = pair(*machines)
            rows = [(tuple(source.randint(-2, 2) for _ in range(both.count)), source.randint(-30, 0))]
            search = Search(machine, source.choice(machine.rooms()), rows, most=12)
            if search.go(12) != "come":
                continue
            run = search.run()
            end = walk(both, run)[1]
            halves = parted(*machines, run)
            self.assertEqual(halves, own_parted(one, other, run))
            states = ()
            names = []
            for plan, half in zip((one, other), halves):
                fault, its_end = walk(plan, half)
                self.assertIsNone(fault)
                states += its_end[1]
                names.append(its_end[0])
                self.assertEqual(its_end[2], end[2])
                doors += len(half[2]) // 2
            self.assertEqual(("-".join(names), states), end[:2])
        self.assertGreater(doors, 40)


if __name__ == "__main__":
    unittest.main()
