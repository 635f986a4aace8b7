import itertools
import random
import unittest

from slopeyard.errors import (BadCount, BadName, BadRow, BadSlope, BadSums, Full, InUse, NoDoor, NoRoom, SlopeError,
                              Taken)
from slopeyard.machine import Machine
from tests.machines import as_told, build, random_plan, told
from tests.reckoning import units

BIG = 10 ** 20 - 1
PARTS = ["a", "z", "ab", "water", "abcdefgh", "zzzzzzzz"]
NO_PARTS = ["", "abcdefghi", "A", "aB", "a1", "a_b", "a b", " a", "a ", "a\n", "\na", "a.b", "~", "a" * 4000, "_", "1"]


def small():
    """A machine of two levels with rooms `hall` and `bath`, doors 1 and 2, and a beginning in the hall."""
    machine = Machine(2)
    machine.add_room("hall", [((1, 0), 10), ((-2, 0), 0)], [(1, -1)])
    machine.add_room("bath", [], [(0, 0), (-3, 4)])
    machine.add_door("hall", "bath", "go", [((-1, 0), -5)], [((1, 0), 0), ((0, 2), -7)])
    machine.add_door("bath", "hall", "back", [], [((0, 0), 0), ((0, 0), 0)])
    machine.add_begin("hall", [((1, 1), 1)])
    return machine


def room_name(number):
    return "room-" + "abcdefghijklmnopqrstuvwxyz"[number]


def full():
    """A machine of one level with as many rooms, doors and beginnings as can be."""
    machine = Machine(1)
    for number in range(12):
        machine.add_room(room_name(number), [], [(1,)])
    for number in range(24):
        machine.add_door(room_name(number % 11), room_name(0), "x", [], [((1,), 0)])
    for number in range(8):
        machine.add_begin(room_name(number % 3), [])
    return machine


class MachineCase(unittest.TestCase):
    def refuse(self, error, machine, what, *words, **more):
        """What is asked for is refused with this very error, and changes nothing."""
        ahead, twin = told(machine), machine.twin()
        with self.assertRaises((SlopeError, LookupError)) as caught:
            what(*words, **more)
        self.assertIs(type(caught.exception), error, words)
        self.assertEqual(told(machine), ahead)
        self.assertTrue(machine == twin)


class MakingTest(MachineCase):
    def test_counts(self):
        for count in (0, -1, 5, 8, BIG, -BIG):
            self.assertRaises(BadCount, Machine, count)
        for count in range(1, 5):
            self.assertEqual(Machine(count).count, count)
        self.assertEqual(Machine(count=3).count, 3)

    def test_a_new_one_is_bare(self):
        machine = Machine(3)
        self.assertEqual((machine.rooms(), machine.doors(), machine.begins()), ([], [], []))
        self.assertEqual((machine.coming(), len(machine)), (1, 0))
        self.assertEqual(repr(machine), "Machine(3 levels, 0 rooms, 0 doors)")

    def test_what_is_told(self):
        machine = small()
        self.assertEqual(machine.rooms(), ["hall", "bath"])
        self.assertEqual(machine.room("hall"), ([((1, 0), 10), ((-2, 0), 0)], [(1, -1)]))
        self.assertEqual(machine.room("bath"), ([], [(0, 0), (-3, 4)]))
        self.assertEqual(machine.doors(), [1, 2])
        self.assertEqual(machine.door(1), ("hall", "bath", "go", [((-1, 0), -5)], [((1, 0), 0), ((0, 2), -7)]))
        self.assertEqual(machine.door(2), ("bath", "hall", "back", [], [((0, 0), 0), ((0, 0), 0)]))
        self.assertEqual(machine.begins(), [("hall", [((1, 1), 1)])])
        self.assertEqual(machine.coming(), 3)
        self.assertEqual(len(machine), 2)
        self.assertEqual(repr(machine), "Machine(2 levels, 2 rooms, 2 doors)")

    def test_what_the_deeds_tell(self):
        machine = Machine(1)
        self.assertIsNone(machine.add_room("a", [], [(1,)]))
        self.assertIsNone(machine.add_room("b", [], [(1,)]))
        self.assertEqual([machine.add_door("a", "a", "x", [], [((1,), 0)]) for _ in range(3)], [1, 2, 3])
        self.assertEqual([machine.add_begin("a", []) for _ in range(3)], [0, 1, 2])
        self.assertIsNone(machine.shut(2))
        self.assertIsNone(machine.raze("b"))

    def test_by_name(self):
        machine = Machine(count=1)
        machine.add_room(slopes=[(1,)], rows=[((1,), 2)], name="a")
        self.assertEqual(machine.add_door(sums=[((1,), 0)], rows=[], word="x", behind="a", first="a"), 1)
        self.assertEqual(machine.add_begin(rows=[((2,), 2)], room="a"), 0)
        self.assertEqual(machine.room(name="a"), ([((1,), 2)], [(1,)]))
        self.assertEqual(machine.door(number=1), ("a", "a", "x", [], [((1,), 0)]))
        machine.add_room("b", [], [(1,)])
        machine.raze(room="b")
        machine.shut(number=1)
        self.assertEqual((machine.rooms(), machine.doors()), (["a"], []))

    def test_nothing_is_brought_to_plain_form_and_alike_ones_stay(self):
        machine = Machine(2)
        rows = [((2, 4), 6), ((1, 2), 3), ((2, 4), 6), ((0, 0), 5)]
        slopes = [(2, 4), (2, 4), (0, 0)]
        machine.add_room("a", rows, slopes)
        machine.add_door("a", "a", "x", rows, [((2, 4), 6), ((2, 4), 6)])
        machine.add_begin("a", rows)
        self.assertEqual(machine.room("a"), (rows, slopes))
        self.assertEqual(machine.door(1), ("a", "a", "x", rows, [((2, 4), 6), ((2, 4), 6)]))
        self.assertEqual(machine.begins(), [("a", rows)])

    def test_tuples_for_lists(self):
        machine = Machine(1)
        machine.add_room("a", (((1,), 2),), ((3,), (4,)))
        machine.add_door("a", "a", "x", (((1,), 2),), (((1,), 0),))
        machine.add_begin("a", (((1,), 2),))
        self.assertEqual(machine.room("a"), ([((1,), 2)], [(3,), (4,)]))
        self.assertEqual(machine.door(1), ("a", "a", "x", [((1,), 2)], [((1,), 0)]))
        self.assertEqual(machine.begins(), [("a", [((1,), 2)])])

    def test_kinds_of_what_is_told(self):
        machine = small()
        rows, slopes = machine.room("hall")
        first, behind, word, own, sums = machine.door(1)
        begins = machine.begins()
        self.assertEqual([type(one) for one in (machine.rooms(), machine.doors(), begins, rows, slopes, own, sums)],
                         [list] * 7)
        self.assertEqual([type(one) for one in (machine.room("hall"), machine.door(1), begins[0], rows[0], rows[0][0],
                                                slopes[0], own[0], own[0][0], sums[0], sums[0][0])], [tuple] * 10)
        self.assertIs(type(begins[0][1]), list)

    def test_random_ones(self):
        source = random.Random(51)
        for _ in range(100):
            plan = random_plan(source)
            self.assertEqual(told(build(plan)), as_told(plan))


class NamesTest(MachineCase):
    def test_names_of_rooms(self):
        good = PARTS + ["-".join(parts) for parts in (["a", "b"], ["abcdefgh"] * 4, ["zz"] * 3, ["a", "abcdefgh"])]
        for name in good:
            machine = Machine(1)
            machine.add_room(name, [], [(1,)])
            self.assertEqual(machine.rooms(), [name])

    def test_names_that_are_none(self):
        machine = Machine(1)
        bad = NO_PARTS + ["-", "a-", "-a", "a--b", "a-b-c-d-e", "-".join(["abcdefgh"] * 5), "a-abcdefghi", "a-B",
                          "a-b\n", "a -b", "a-b-c-d-", "---", "a-" * 2000]
        for name in bad:
            self.refuse(BadName, machine, machine.add_room, name, [], [(1,)])

    def test_words(self):
        machine = Machine(1)
        machine.add_room("a", [], [(1,)])
        for number, word in enumerate(PARTS):
            self.assertEqual(machine.add_door("a", "a", word, [], [((1,), 0)]), number + 1)
            self.assertEqual(machine.door(number + 1)[2], word)
        for word in NO_PARTS + ["a-b", "-", "a-", "-a"]:
            self.refuse(BadName, machine, machine.add_door, "a", "a", word, [], [((1,), 0)])

    def test_rooms_asked_for_by_what_is_no_name(self):
        machine = small()
        for name in NO_PARTS + ["attic", "hall-", "hall-bath", "Hall", "hall\n"]:
            self.refuse(NoRoom, machine, machine.room, name)
            self.refuse(NoRoom, machine, machine.raze, name)
            self.refuse(NoRoom, machine, machine.add_begin, name, [])
            self.refuse(NoRoom, machine, machine.add_door, name, "hall", "x", [], units(2))
            self.refuse(NoRoom, machine, machine.add_door, "hall", name, "x", [], units(2))

    def test_doors_asked_for_that_are_none(self):
        machine = small()
        for number in (0, 3, -1, -2, BIG, -BIG):
            self.refuse(NoDoor, machine, machine.door, number)
            self.refuse(NoDoor, machine, machine.shut, number)


class BoundsTest(MachineCase):
    def takers(self, count):
        """A machine of so many levels, and the deeds in it that take rows."""
        machine = Machine(count)
        machine.add_room("a", [], [(0,) * count])
        return machine, [lambda rows: machine.add_room(room_name(len(machine)), rows, [(0,) * count]),
                         lambda rows: machine.add_door("a", "a", "x", rows, units(count)),
                         lambda rows: machine.add_begin("a", rows)]

    def alone(self, count, place, number):
        return tuple(number if level == place else 0 for level in range(count))

    def test_rows(self):
        for count in range(1, 5):
            machine, takers = self.takers(count)
            for take in takers:
                take([(self.alone(count, place, weight), 9999) for place in range(count) for weight in (99, -99)])
                take([((-99,) * count, -9999), ((99,) * count, 9999)])
                for place, weight in itertools.product(range(count), (100, -100, BIG, -BIG)):
                    row = (self.alone(count, place, weight), 9999)
                    self.refuse(BadRow, machine, take, [row])
                    self.refuse(BadRow, machine, take, [((1,) * count, 1), row])
                for bound in (10000, -10000, BIG, -BIG):
                    self.refuse(BadRow, machine, take, [((99,) * count, bound)])
                    self.refuse(BadRow, machine, take, [((0,) * count, 0)] * 7 + [((0,) * count, bound)])

    def test_how_many_rows(self):
        for count in (1, 4):
            machine, takers = self.takers(count)
            for take in takers:
                take([])
                take([((99,) * count, 9999)] * 8)
                for many in (9, 10, 60):
                    self.refuse(BadRow, machine, take, [((0,) * count, 0)] * many)

    def test_rows_of_another_count(self):
        for count in range(1, 5):
            machine, takers = self.takers(count)
            for take in takers:
                for other in (0, count - 1, count + 1, 8):
                    self.refuse(BadRow, machine, take, [((1,) * other, 1)])
                    self.refuse(BadRow, machine, take, [((1,) * count, 1), ((1,) * other, 1)])

    def test_slopes(self):
        for count in range(1, 5):
            machine = Machine(count)
            for many in range(1, 5):
                machine.add_room(room_name(many), [], [(9999,) * count] * (many - 1) + [(-9999,) * count])
            for slopes in ([], [(0,) * count] * 5, [(0,) * count] * 60):
                self.refuse(BadSlope, machine, machine.add_room, "b", [], slopes)
            for place in range(count):
                for number in (10000, -10000, BIG, -BIG):
                    slope = self.alone(count, place, number)
                    self.refuse(BadSlope, machine, machine.add_room, "b", [], [slope])
                    self.refuse(BadSlope, machine, machine.add_room, "b", [], [(0,) * count] * 3 + [slope])
            for other in (0, count - 1, count + 1, 8):
                self.refuse(BadSlope, machine, machine.add_room, "b", [], [(1,) * other])
                self.refuse(BadSlope, machine, machine.add_room, "b", [], [(1,) * count, (1,) * other])

    def test_sums(self):
        for count in range(1, 5):
            machine = Machine(count)
            machine.add_room("a", [], [(0,) * count])
            for sums in ([((9,) * count, 999)] * count, [((-9,) * count, -999)] * count, units(count)):
                number = machine.add_door("a", "a", "x", [], sums)
                self.assertEqual(machine.door(number)[4], sums)
            for place in range(count):
                for other in self.bad_sums(count):
                    sums = units(count)
                    sums[place] = other
                    self.refuse(BadSums, machine, machine.add_door, "a", "a", "x", [], sums)
            for many in (0, count - 1, count + 1, 8):
                self.refuse(BadSums, machine, machine.add_door, "a", "a", "x", [], [((1,) * count, 0)] * many)

    def bad_sums(self, count):
        for place in range(count):
            for weight in (10, -10, BIG, -BIG):
                yield self.alone(count, place, weight), 0
        for more in (1000, -1000, BIG, -BIG):
            yield (1,) * count, more
        for other in (0, count - 1, count + 1):
            yield (1,) * other, 0


class FullTest(MachineCase):
    def test_filled_with_rooms(self):
        machine = Machine(1)
        for number in range(12):
            machine.add_room(room_name(number), [], [(1,)])
        self.assertEqual(len(machine), 12)
        self.refuse(Full, machine, machine.add_room, "more", [], [(1,)])
        self.refuse(Taken, machine, machine.add_room, room_name(3), [], [(1,)])
        machine.raze(room_name(3))
        machine.add_room("more", [], [(1,)])
        self.refuse(Full, machine, machine.add_room, "others", [], [(1,)])
        self.assertEqual(machine.add_door("more", "more", "x", [], [((1,), 0)]), 1)

    def test_filled_with_doors(self):
        machine = Machine(1)
        machine.add_room("a", [], [(1,)])
        for number in range(24):
            self.assertEqual(machine.add_door("a", "a", "x", [], [((1,), 0)]), number + 1)
        self.refuse(Full, machine, machine.add_door, "a", "a", "x", [], [((1,), 0)])
        machine.shut(5)
        self.assertEqual(machine.add_door("a", "a", "x", [], [((1,), 0)]), 25)
        self.refuse(Full, machine, machine.add_door, "a", "a", "x", [], [((1,), 0)])
        self.assertEqual(machine.coming(), 26)
        machine.add_room("b", [], [(1,)])
        self.assertEqual(machine.add_begin("b", []), 0)

    def test_filled_with_beginnings(self):
        machine = Machine(1)
        machine.add_room("a", [], [(1,)])
        for number in range(8):
            self.assertEqual(machine.add_begin("a", [((1,), number)]), number)
        self.refuse(Full, machine, machine.add_begin, "a", [])
        self.assertEqual(machine.begins(), [("a", [((1,), number)]) for number in range(8)])
        machine.add_room("b", [], [(1,)])
        machine.add_door("b", "a", "x", [], [((1,), 0)])

    def test_filled_in_each_way(self):
        machine = full()
        self.assertEqual((len(machine), len(machine.doors()), len(machine.begins())), (12, 24, 8))
        self.assertEqual(repr(machine), "Machine(1 levels, 12 rooms, 24 doors)")
        self.refuse(Full, machine, machine.add_room, "more", [], [(1,)])
        self.refuse(Full, machine, machine.add_door, room_name(0), room_name(0), "x", [], [((1,), 0)])
        self.refuse(Full, machine, machine.add_begin, room_name(0), [])


class OrderTest(MachineCase):
    """Of several refusals the one listed first goes, whatever the order of the arguments."""

    def machines(self):
        bare = Machine(1)
        for number in range(3):
            bare.add_room(room_name(number), [], [(1,)])
        return [(bare, None), (full(), Full)]

    def check(self, machine, deed, last, choices):
        """Each choice has its argument, the refusal due for it (or None), and this refusal's place in the order."""
        for chosen in itertools.product(*choices):
            due = [(place, error) for _, error, place in chosen if error] + ([(99, last)] if last else [])
            if due:
                self.refuse(min(due, key=lambda entry: entry[0])[1], machine, deed, *[word for word, _, _ in chosen])

    def test_rooms(self):
        for machine, last in self.machines():
            names = [("new", None, 0), ("New", BadName, 0), ("", BadName, 0), (room_name(1), Taken, 1)]
            rows = [([], None, 2), ([((1, 1), 1)], BadRow, 2), ([((100,), 1)], BadRow, 2), ([((1,), 1)] * 9, BadRow, 2)]
            slopes = [([(1,)], None, 3), ([], BadSlope, 3), ([(1, 1)], BadSlope, 3), ([(10000,)], BadSlope, 3)]
            self.check(machine, machine.add_room, last, [names, rows, slopes])

    def test_doors(self):
        for machine, last in self.machines():
            rooms = [(room_name(2), None, 0), ("attic", NoRoom, 0), ("no name", NoRoom, 0)]
            words = [("x", None, 1), ("a-b", BadName, 1)]
            rows = [([], None, 2), ([((1, 1), 1)], BadRow, 2), ([((1,), 10000)], BadRow, 2)]
            sums = [([((1,), 0)], None, 3), ([], BadSums, 3), ([((10,), 0)], BadSums, 3), ([((1, 1), 0)], BadSums, 3)]
            self.check(machine, machine.add_door, last, [rooms, rooms, words, rows, sums])

    def test_beginnings(self):
        for machine, last in self.machines():
            rooms = [(room_name(2), None, 0), ("attic", NoRoom, 0)]
            rows = [([], None, 1), ([((), 1)], BadRow, 1), ([((1,), 1)] * 9, BadRow, 1)]
            self.check(machine, machine.add_begin, last, [rooms, rows])

    def test_by_name_in_another_order(self):
        machine = full()
        self.refuse(BadName, machine, machine.add_room, slopes=[], rows=[((), 0)], name="-")
        self.refuse(Taken, machine, machine.add_room, slopes=[], rows=[((), 0)], name=room_name(0))
        self.refuse(BadRow, machine, machine.add_room, slopes=[], rows=[((), 0)], name="new")
        self.refuse(BadSlope, machine, machine.add_room, slopes=[], rows=[], name="new")
        self.refuse(BadName, machine, machine.add_door, sums=[], rows=[((), 0)], word="", behind=room_name(0),
                    first=room_name(0))
        self.refuse(NoRoom, machine, machine.add_begin, rows=[((), 0)], room="no")


class GoingTest(MachineCase):
    def test_rooms_stand_in_the_order_in_which_they_came(self):
        machine = Machine(1)
        for name in ("c", "a", "d", "b"):
            machine.add_room(name, [], [(1,)])
        machine.raze("a")
        self.assertEqual(machine.rooms(), ["c", "d", "b"])
        machine.add_room("a", [((1,), 5)], [(2,)])
        self.assertEqual(machine.rooms(), ["c", "d", "b", "a"])
        self.assertEqual(machine.room("a"), ([((1,), 5)], [(2,)]))
        machine.raze("c")
        machine.raze("a")
        machine.add_room("c", [], [(3,)])
        self.assertEqual(machine.rooms(), ["d", "b", "c"])
        self.refuse(NoRoom, machine, machine.room, "a")
        self.refuse(NoRoom, machine, machine.raze, "a")

    def test_a_room_in_use(self):
        machine = small()
        machine.add_room("attic", [], [(0, 0)])
        for name in ("hall", "bath"):
            self.refuse(InUse, machine, machine.raze, name)
        machine.shut(1)
        self.refuse(InUse, machine, machine.raze, "bath")
        machine.shut(2)
        machine.raze("bath")
        self.refuse(InUse, machine, machine.raze, "hall")
        machine.raze("attic")
        self.assertEqual(machine.rooms(), ["hall"])

    def test_in_use_by_a_door_at_either_end_or_a_beginning_alone(self):
        for first, behind in (("a", "b"), ("b", "a"), ("a", "a")):
            machine = Machine(1)
            machine.add_room("a", [], [(1,)])
            machine.add_room("b", [], [(1,)])
            machine.add_door(first, behind, "x", [], [((1,), 0)])
            self.refuse(InUse, machine, machine.raze, "a")
            machine.shut(1)
            machine.raze("a")
            machine.add_begin("b", [])
            self.refuse(InUse, machine, machine.raze, "b")

    def test_numbers_of_doors_never_come_again(self):
        machine = Machine(1)
        machine.add_room("a", [], [(1,)])

        def make():
            return machine.add_door("a", "a", "x", [], [((1,), 0)])

        self.assertEqual([make(), make(), make()], [1, 2, 3])
        machine.shut(3)
        self.assertEqual((machine.doors(), machine.coming()), ([1, 2], 4))
        self.assertEqual(make(), 4)
        machine.shut(1)
        self.assertEqual(make(), 5)
        self.assertEqual((machine.doors(), machine.coming()), ([2, 4, 5], 6))
        for number in (2, 4, 5):
            machine.shut(number)
        self.assertEqual((machine.doors(), machine.coming()), ([], 6))
        self.refuse(NoDoor, machine, machine.door, 5)
        self.refuse(NoDoor, machine, machine.shut, 5)
        self.assertEqual(make(), 6)

    def test_refused_doors_have_no_numbers(self):
        machine = Machine(1)
        machine.add_room("a", [], [(1,)])
        self.refuse(BadSums, machine, machine.add_door, "a", "a", "x", [], [])
        self.refuse(NoRoom, machine, machine.add_door, "b", "a", "x", [], [((1,), 0)])
        self.assertEqual(machine.add_door("a", "a", "x", [], [((1,), 0)]), 1)
        self.assertEqual(machine.coming(), 2)


class SameTest(MachineCase):
    def changes(self):
        return [lambda machine: machine.add_room("attic", [], [(0, 0)]),
                lambda machine: machine.add_door("hall", "bath", "x", [], units(2)),
                lambda machine: machine.add_begin("bath", []),
                lambda machine: machine.shut(1), lambda machine: machine.shut(2)]

    def test_equal(self):
        one, other = small(), small()
        self.assertIs(one == other, True)
        self.assertIs(one != other, False)
        self.assertIs(Machine(2) == Machine(2), True)
        self.assertIs(Machine(2) == Machine(3), False)
        for change in self.changes():
            other = small()
            change(other)
            self.assertIs(one == other, False)
            self.assertIs(other == one, False)
            self.assertIs(one != other, True)

    def test_the_order_of_rooms_counts(self):
        one, other = Machine(1), Machine(1)
        for name in ("a", "b"):
            one.add_room(name, [], [(1,)])
        for name in ("b", "a"):
            other.add_room(name, [], [(1,)])
        self.assertFalse(one == other)
        other.raze("b")
        other.add_room("b", [], [(1,)])
        self.assertTrue(one == other)

    def test_the_coming_number_counts(self):
        one, other = small(), small()
        other.add_door("hall", "bath", "x", [], units(2))
        other.shut(3)
        self.assertFalse(one == other)
        one.add_door("bath", "hall", "y", [], units(2))
        one.shut(3)
        self.assertTrue(one == other)

    def test_the_order_of_beginnings_counts(self):
        one, other = small(), small()
        one.add_begin("hall", [])
        one.add_begin("bath", [])
        other.add_begin("bath", [])
        other.add_begin("hall", [])
        self.assertFalse(one == other)

    def test_each_part_counts_and_by_its_very_rows(self):
        def made(rows, slopes, word, sums):
            machine = Machine(1)
            machine.add_room("a", rows, slopes)
            machine.add_door("a", "a", word, rows, sums)
            return machine

        parts = [([((1,), 2)], [((2,), 4)]), ([(1,)], [(2,)]), ("x", "y"), ([((1,), 0)], [((1,), 1)])]
        one = made(*[first for first, _ in parts])
        self.assertTrue(one == made(*[first for first, _ in parts]))
        for place in range(4):
            self.assertFalse(one == made(*[pair[pair is parts[place]] for pair in parts]))

    def test_nothing_else_is_equal(self):
        machine = small()
        for other in (None, 2, "Machine(2 levels, 2 rooms, 2 doors)", [], {}, told(machine), object()):
            self.assertIs(machine == other, False)
            self.assertIs(machine != other, True)

    def test_a_twin_stands_alike_and_goes_its_own_way(self):
        for change in self.changes():
            machine = small()
            ahead, twin = told(machine), machine.twin()
            self.assertTrue(machine == twin)
            self.assertEqual(told(twin), ahead)
            change(twin)
            self.assertEqual(told(machine), ahead)
            self.assertFalse(machine == twin)
            changed, second = told(twin), machine.twin()
            change(machine)
            self.assertEqual(told(machine), changed)
            self.assertEqual(told(second), ahead)
            self.assertTrue(machine == twin)

    def test_a_twin_of_a_full_one(self):
        machine = full()
        twin = machine.twin()
        twin.shut(4)
        self.refuse(Full, machine, machine.add_door, room_name(0), room_name(0), "x", [], [((1,), 0)])
        self.assertEqual(twin.add_door(room_name(0), room_name(0), "x", [], [((1,), 0)]), 25)
        self.assertEqual(machine.coming(), 25)

    def test_machines_made_apart(self):
        one, other = Machine(1), Machine(1)
        one.add_room("a", [], [(1,)])
        self.assertEqual(other.rooms(), [])
        other.add_room("a", [], [(2,)])
        self.assertEqual(one.room("a"), ([], [(1,)]))


class CopiesTest(MachineCase):
    def test_what_is_handed_in_stays_and_is_not_kept(self):
        machine = Machine(1)
        room_rows, slopes, rows, sums, begin = [((1,), 2)], [(3,)], [((4,), 5)], [((6,), 7)], [((8,), 9)]
        machine.add_room("a", room_rows, slopes)
        machine.add_door("a", "a", "x", rows, sums)
        machine.add_begin("a", begin)
        handed = [room_rows, slopes, rows, sums, begin]
        self.assertEqual(handed, [[((1,), 2)], [(3,)], [((4,), 5)], [((6,), 7)], [((8,), 9)]])
        ahead = told(machine)
        for one in handed:
            one.append("more")
            one[0] = "other"
        self.assertEqual(told(machine), ahead)

    def test_refused_things_stay(self):
        machine = Machine(1)
        rows, slopes = [((1,), 2), ((1, 1), 2)], []
        self.refuse(BadRow, machine, machine.add_room, "a", rows, slopes)
        self.assertEqual((rows, slopes), ([((1,), 2), ((1, 1), 2)], []))

    def test_one_list_handed_in_twice(self):
        machine = Machine(1)
        rows = [((1,), 2)]
        machine.add_room("a", rows, [(1,)])
        machine.add_begin("a", rows)
        machine.room("a")[0].clear()
        self.assertEqual(machine.begins(), [("a", rows)])

    def test_told_lists_are_new(self):
        source = random.Random(52)
        for _ in range(20):
            plan = random_plan(source)
            machine = build(plan)
            ahead, twin = told(machine), machine.twin()
            for asked in (machine, twin, machine):
                for name in asked.rooms():
                    for one in asked.room(name):
                        one.append("more")
                        one[0] = "other"
                for number in asked.doors():
                    for one in asked.door(number)[3:]:
                        one.append("more")
                        one[0] = "other"
                begins = asked.begins()
                for _, rows in begins:
                    rows.append("more")
                for one in (begins, asked.rooms(), asked.doors()):
                    one.append("more")
                    one[0] = "other"
                self.assertEqual(told(machine), ahead)
                self.assertEqual(told(twin), ahead)
            self.assertEqual(told(machine), as_told(plan))
            self.assertTrue(machine == twin)


if __name__ == "__main__":
    unittest.main()
