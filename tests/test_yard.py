import random
import unittest

from slopeyard.errors import (Absent, BadCount, BadName, BadRow, BadSlope, BadSums, Derived, Full, InUse, NoDoor,
                              NoMachine, NoRoom, Nothing, SlopeError, Taken)
from slopeyard.machine import Machine
from slopeyard.pairs import pair
from slopeyard.yard import Yard
from tests.machines import told
from tests.yarding import BAD_NAMES, OwnYard, Refused, filled, some_deed, told_by

AS_IT_IS = [((1,), 0)]
STILL = [(0,)]

# Deeds by which a yard has a machine a of two rooms, a machine b of one, and the pair p of both.
FIRST = [
    ("machine", "b", 1),
    ("machine", "a", 1),
    ("room", "a", "r", [((1,), 5)], [(1,), (2,)]),
    ("room", "a", "s", [], [(0,)]),
    ("door", "a", "r", "s", "go", [((-1,), -3)], [((2,), -1)]),
    ("begin", "a", "r", [((1,), 0)]),
    ("room", "b", "t", [((2,), 7)], [(3,)]),
    ("door", "b", "t", "t", "go", [], [((1,), 1)]),
    ("door", "b", "t", "t", "hop", [((1,), 1)], AS_IT_IS),
    ("begin", "b", "t", []),
    ("pair", "p", "a", "b"),
]
ANSWERS = [None, None, None, None, 1, None, None, 1, 2, None, None]


def first():
    yard = Yard()
    for deed in FIRST:
        yard.do(deed)
    return yard


def full():
    yard = Yard()
    for name in "abcdefgh":
        yard.do(("machine", name, 3))
    return yard


class YardCase(unittest.TestCase):
    def refused(self, error, yard, *deeds):
        """Each is refused so, twice and by both ways, and nothing is changed by it, nor what is to do again."""
        ahead, again = told_by(yard), to_do_of(yard)
        for deed in deeds:
            for do in (lambda: yard.do(deed), lambda: yard.do(deed), lambda: yard.together([deed])):
                with self.assertRaises(error) as caught:
                    do()
                self.assertIs(type(caught.exception), error)
                self.assertEqual(told_by(yard), ahead)
                self.assertEqual(to_do_of(yard), again)


def to_do_of(yard):
    """The deeds that can be done again."""
    twin = yard.twin()
    deeds = []
    while True:
        try:
            deeds.append(twin.redo())
        except Nothing:
            return deeds


class DeedsTest(YardCase):
    def test_at_first(self):
        yard = Yard()
        self.assertEqual(told_by(yard), ([], [], 0, "Yard(0 machines)", []))
        self.assertRaises(Nothing, yard.undo)
        self.assertRaises(Nothing, yard.redo)

    def test_each_deed(self):
        yard = Yard()
        self.assertEqual([yard.do(deed) for deed in FIRST], ANSWERS)
        self.assertEqual(yard.machines(), ["a", "b", "p"])
        self.assertEqual((len(yard), repr(yard)), (3, "Yard(3 machines)"))
        one, other = Machine(1), Machine(1)
        one.add_room("r", [((1,), 5)], [(1,), (2,)])
        one.add_room("s", [], [(0,)])
        one.add_door("r", "s", "go", [((-1,), -3)], [((2,), -1)])
        one.add_begin("r", [((1,), 0)])
        other.add_room("t", [((2,), 7)], [(3,)])
        other.add_door("t", "t", "go", [], [((1,), 1)])
        other.add_door("t", "t", "hop", [((1,), 1)], AS_IT_IS)
        other.add_begin("t", [])
        self.assertEqual(told(yard.machine("a")), told(one))
        self.assertEqual(told(yard.machine(name="b")), told(other))
        self.assertEqual(told(yard.machine("p")), told(pair(one, other)))
        self.assertEqual(yard.made_of(name="p"), ("a", "b"))
        self.assertIsNone(yard.made_of("a"))
        for deed in [("shut", "b", 1), ("lose", "p"), ("shut", "a", 1), ("raze", "a", "s"), ("lose", "b")]:
            self.assertIsNone(yard.do(deed=deed))
        one.shut(1)
        one.raze("s")
        self.assertEqual(yard.machines(), ["a"])
        self.assertEqual(told(yard.machine("a")), told(one))
        self.assertEqual(yard.do(("door", "a", "r", "r", "go", [], AS_IT_IS)), 2)

    def test_counts(self):
        yard = Yard()
        for name, count in [("a", 1), ("b", 2), ("c", 3)]:
            self.assertIsNone(yard.do(("machine", name, count)))
            self.assertEqual(told(yard.machine(name)), told(Machine(count)))
        yard.do(("pair", "d", "a", "c"))
        self.assertEqual(yard.machine("d").count, 4)

    def test_a_pair_goes_by_what_both_are_now(self):
        yard = first()
        deeds = [("room", "a", "u", [((1,), 1)], STILL), ("door", "a", "u", "r", "hop", [], AS_IT_IS),
                 ("begin", "b", "t", [((1,), 3)]), ("shut", "b", 1), ("shut", "a", 1), ("raze", "a", "s")]
        for deed in deeds:
            ahead = told(yard.machine("p"))
            yard.do(deed)
            machine = yard.machine("p")
            self.assertNotEqual(told(machine), ahead)
            self.assertEqual(told(machine), told(pair(yard.machine("a"), yard.machine("b"))))
        for _ in deeds:
            yard.undo()
            self.assertEqual(told(yard.machine("p")), told(pair(yard.machine("a"), yard.machine("b"))))
        self.assertEqual(told_by(yard), told_by(first()))

    def test_a_pair_of_one_machine_with_itself(self):
        yard = first()
        yard.do(("pair", "q", "a", "a"))
        self.assertEqual(yard.made_of("q"), ("a", "a"))
        self.assertEqual(yard.machine("q").rooms(), ["r-r", "r-s", "s-r", "s-s"])
        yard.do(("room", "a", "u", [], STILL))
        self.assertEqual(len(yard.machine("q")), 9)
        self.refused(Full, yard, ("room", "a", "v", [], STILL))
        self.refused(BadSlope, yard, ("room", "a", "v", [], [(0,), (1,), (2,)]))
        self.refused(Taken, yard, ("room", "a", "r-r", [], STILL), ("room", "a", "s-s", [], STILL))
        self.refused(BadName, yard, ("room", "a", "v-v-v", [], STILL))
        self.refused(InUse, yard, ("lose", "a"))
        yard.do(("lose", "q"))
        self.refused(InUse, yard, ("lose", "a"))
        yard.do(("room", "a", "v-v-v", [], STILL))
        yard.do(("lose", "p"))
        yard.do(("lose", "a"))
        self.assertEqual(yard.machines(), ["b"])

    def test_filled_to_eight(self):
        yard = full()
        self.assertEqual((len(yard), yard.machines()), (8, list("abcdefgh")))
        self.refused(Full, yard, ("machine", "i", 1))
        yard.do(("lose", "c"))
        yard.do(("machine", "c", 1))
        yard.do(("lose", "a"))
        yard.do(("pair", "a", "c", "d"))
        self.refused(Full, yard, ("pair", "i", "c", "d"), ("machine", "i", 3))
        self.assertEqual(repr(yard), "Yard(8 machines)")

    def test_names(self):
        yard = Yard()
        for name in ("a", "z", "abcdefgh", "zzzzzzzz"):
            yard.do(("machine", name, 1))
        self.assertEqual(yard.machines(), ["a", "abcdefgh", "z", "zzzzzzzz"])


class RefusalsTest(YardCase):
    def test_machine(self):
        yard = first()
        self.refused(BadName, yard, *[("machine", name, 0) for name in BAD_NAMES])
        self.refused(Taken, yard, ("machine", "a", 0), ("machine", "p", 1))
        self.refused(BadCount, yard, *[("machine", "c", count) for count in (0, 4, -1, 10 ** 19)])
        self.refused(BadName, full(), ("machine", "A", 4))
        self.refused(Taken, full(), ("machine", "a", 4))
        self.refused(BadCount, full(), ("machine", "i", 4), ("machine", "i", 0))
        self.refused(Full, full(), ("machine", "i", 3))

    def test_pair(self):
        yard = first()
        self.refused(BadName, yard, *[("pair", name, "x", "p") for name in BAD_NAMES])
        self.refused(Taken, yard, ("pair", "a", "x", "p"), ("pair", "p", "a", "b"))
        self.refused(NoMachine, yard, ("pair", "c", "x", "p"), ("pair", "c", "p", "x"), ("pair", "c", "c", "c"),
                     ("pair", "c", "", "a"))
        self.refused(Derived, yard, ("pair", "c", "p", "a"), ("pair", "c", "a", "p"), ("pair", "c", "p", "p"))
        yard.do(("machine", "c", 3))
        yard.do(("machine", "d", 3))
        yard.do(("room", "d", "a-b-c-d", [], [(0, 0, 0)] * 4))
        self.refused(BadCount, yard, ("pair", "e", "c", "c"), ("pair", "e", "c", "d"))
        self.refused(BadName, yard, ("pair", "e", "a", "d"), ("pair", "e", "d", "b"))
        for name, rooms in [("e", ["x", "x-y"]), ("f", ["z", "y-z"])]:
            yard.do(("machine", name, 2))
            for room in rooms:
                yard.do(("room", name, room, [], [(0, 0)] * 3))
        self.refused(Taken, yard, ("pair", "g", "e", "f"))
        self.refused(BadSlope, yard, ("pair", "g", "e", "a"))
        yard.do(("machine", "g", 1))
        for room in ("a", "b", "c", "d", "e", "f", "g"):
            yard.do(("room", "g", room, [], STILL))
        self.refused(Full, yard, ("pair", "h", "g", "a"))
        yard.do(("raze", "g", "g"))
        yard.do(("lose", "f"))
        self.assertIsNone(yard.do(("pair", "h", "g", "a")))
        # The yard is full by now; what two machines refuse goes first.
        self.refused(Full, yard, ("pair", "i", "a", "b"))
        self.refused(BadCount, yard, ("pair", "i", "c", "d"))
        self.refused(BadSlope, yard, ("pair", "i", "e", "a"))
        self.refused(Derived, yard, ("pair", "i", "h", "a"))

    def test_lose(self):
        yard = first()
        self.refused(NoMachine, yard, ("lose", "c"), ("lose", ""), ("lose", "A"))
        self.refused(InUse, yard, ("lose", "a"), ("lose", "b"))
        yard.do(("lose", "p"))
        self.refused(NoMachine, yard, ("lose", "p"))
        yard.do(("lose", "a"))

    def test_deeds_in_one_machine(self):
        bad = [((1, 1), 0)]
        for name, error in [("c", NoMachine), ("p", Derived)]:
            self.refused(error, first(), ("room", name, "R", bad, []), ("begin", name, "x", bad),
                         ("door", name, "x", "y", "X", bad, []), ("raze", name, "x"), ("shut", name, 9))
        yard = first()
        self.refused(BadName, yard, ("room", "a", "R", bad, []), ("room", "a", "r-", bad, []))
        self.refused(Taken, yard, ("room", "a", "r", bad, []))
        self.refused(BadRow, yard, ("room", "a", "u", bad, []), ("room", "a", "u", [((1,), 1)] * 9, STILL))
        self.refused(BadSlope, yard, ("room", "a", "u", [], []), ("room", "a", "u", [], [(1, 1)]))
        self.refused(NoRoom, yard, ("begin", "a", "u", bad), ("raze", "a", "u"), ("door", "a", "u", "r", "X", bad, []),
                     ("door", "a", "r", "u", "X", bad, []))
        self.refused(BadRow, yard, ("begin", "a", "r", bad), ("begin", "a", "r", [((100,), 0)]))
        self.refused(BadName, yard, ("door", "a", "r", "s", "X", bad, []))
        self.refused(BadRow, yard, ("door", "a", "r", "s", "x", bad, []))
        self.refused(BadSums, yard, ("door", "a", "r", "s", "x", [], []),
                     ("door", "a", "r", "s", "x", [], [((10,), 0)]))
        self.refused(InUse, yard, ("raze", "a", "r"), ("raze", "a", "s"))
        self.refused(NoDoor, yard, ("shut", "a", 0), ("shut", "a", 2), ("shut", "b", 3), ("shut", "b", -1))

    def test_what_the_machine_refuses_goes_ahead_of_what_a_pair_does(self):
        yard = first()
        self.refused(BadRow, yard, ("room", "b", "v-v-v-v", [((1, 1), 0)], STILL))
        self.refused(BadName, yard, ("room", "b", "v-v-v-v", [], STILL))
        self.refused(BadSlope, yard, ("room", "b", "u", [], [(0,)] * 3))
        yard.do(("room", "b", "u", [], [(0,)] * 2))
        for _ in range(23):
            yard.do(("begin", "b", "t", []) if len(yard.machine("b").begins()) < 8 else ("shut", "b", 1))
            if yard.machine("b").doors()[0] == 2:
                break
        self.refused(Full, yard, ("begin", "b", "t", []), ("begin", "a", "r", []))
        self.refused(BadRow, yard, ("begin", "b", "t", [((1, 1), 0)]))

    def test_a_door_and_a_shut_one_by_which_a_pair_would_have_too_many_doors(self):
        yard = Yard()
        for name, rooms in [("a", "abc"), ("b", "defg")]:
            yard.do(("machine", name, 1))
            for room in rooms:
                yard.do(("room", name, room, [], STILL))
        for word in ("x", "x", "y"):
            yard.do(("door", "a", "a", "a", word, [], AS_IT_IS))
        for word in ("x", "x", "z"):
            yard.do(("door", "b", "d", "e", word, [], AS_IT_IS))
        yard.do(("pair", "p", "a", "b"))
        self.assertEqual(len(yard.machine("p").doors()), 4 + 4 + 3)
        for word in "uvw":
            yard.do(("door", "a", "b", "b", word, [], AS_IT_IS))
        self.assertEqual(len(yard.machine("p").doors()), 23)
        self.refused(Full, yard, ("door", "a", "b", "b", "q", [], AS_IT_IS), ("door", "b", "d", "d", "q", [], AS_IT_IS))
        self.assertEqual(yard.do(("door", "b", "d", "d", "u", [], AS_IT_IS)), 4)
        self.assertEqual(yard.do(("door", "b", "d", "d", "q", [], AS_IT_IS)), 5)
        yard.do(("shut", "b", 1))
        # Without the last shared door each of the two doors x of a goes by itself, with each of four rooms.
        self.refused(Full, yard, ("shut", "b", 2))
        yard.do(("lose", "p"))
        self.assertIsNone(yard.do(("shut", "b", 2)))
        self.refused(Full, yard, ("pair", "p", "a", "b"))

    def test_of_several_pairs_the_first_of_the_rising_names(self):
        for one, other, error in [("g", "h", BadName), ("h", "g", BadSlope)]:
            yard = Yard()
            for name, rooms, slopes in [("m", ["r"], 1), ("n", ["n-n-n"], 1), ("o", ["o"], 4)]:
                yard.do(("machine", name, 1))
                for room in rooms:
                    yard.do(("room", name, room, [], [(0,)] * slopes))
            yard.do(("pair", one, "m", "n"))
            yard.do(("pair", other, "o", "m"))
            self.refused(error, yard, ("room", "m", "x-x", [], [(0,), (1,)]))
            self.refused(BadName, yard, ("room", "m", "x-x", [], STILL))
            self.refused(BadSlope, yard, ("room", "m", "x", [], [(0,), (1,)]))
            yard.do(("lose", one))
            self.refused(BadSlope, yard, ("room", "m", "x-x", [], [(0,), (1,)]))
            yard.do(("lose", other))
            yard.do(("room", "m", "x-x", [], [(0,), (1,)]))

    def test_names_of_rooms_that_would_come_together_as_one(self):
        yard = Yard()
        for name, room in [("a", "x"), ("b", "z")]:
            yard.do(("machine", name, 1))
            yard.do(("room", name, room, [], STILL))
        yard.do(("pair", "p", "a", "b"))
        yard.do(("room", "b", "y-z", [], STILL))
        self.refused(Taken, yard, ("room", "a", "x-y", [], STILL))
        yard.do(("raze", "b", "z"))
        yard.do(("room", "a", "x-y", [], STILL))
        self.refused(Taken, yard, ("room", "b", "z", [], STILL))
        self.assertEqual(yard.machine("p").rooms(), ["x-y-z", "x-y-y-z"])

    def test_questions(self):
        yard = first()
        ahead = told_by(yard)
        for name in ("c", "", "A", "pp"):
            self.assertRaises(NoMachine, yard.machine, name)
            self.assertRaises(NoMachine, yard.made_of, name)
        self.assertEqual(told_by(yard), ahead)


class BackAndAgainTest(YardCase):
    def test_back_to_the_start_and_forward_again(self):
        yard = Yard()
        stands = [told_by(yard)]
        for deed in FIRST:
            yard.do(deed)
            stands.append(told_by(yard))
        frozen = yard.past()
        for _ in range(2):
            for place in reversed(range(len(FIRST))):
                self.assertEqual(yard.undo(), frozen[place])
                self.assertEqual(told_by(yard), stands[place])
            self.assertRaises(Nothing, yard.undo)
            self.assertEqual(told_by(yard), stands[0])
            for place in range(len(FIRST)):
                self.assertEqual(yard.redo(), frozen[place])
                self.assertEqual(told_by(yard), stands[place + 1])
            self.assertRaises(Nothing, yard.redo)

    def test_numbers_are_taken_back_too(self):
        yard = first()
        door = ("door", "a", "s", "r", "back", [], AS_IT_IS)
        self.assertEqual(yard.do(door), 2)
        yard.undo()
        self.assertEqual(yard.machine("a").coming(), 2)
        self.assertEqual(yard.do(door), 2)
        yard.do(("shut", "a", 2))
        self.assertEqual(yard.do(door), 3)
        yard.undo()
        yard.undo()
        self.assertEqual(yard.machine("a").doors(), [1, 2])
        self.assertEqual(yard.do(door), 3)

    def test_another_deed_lets_go_what_was_taken_back(self):
        yard = first()
        yard.undo()
        yard.undo()
        yard.do(("lose", "b"))
        self.assertRaises(Nothing, yard.redo)
        self.assertEqual(yard.undo(), ("lose", "b"))
        self.assertEqual(yard.redo(), ("lose", "b"))

    def test_refused_deeds_and_questions_do_not(self):
        yard = first()
        yard.undo()
        yard.undo()
        self.refused(NoMachine, yard, ("lose", "c"), ("shut", "p", 1))
        self.refused(Taken, yard, ("machine", "a", 1))
        self.assertRaises(SlopeError, yard.together, [("lose", "b"), ("machine", "a", 1)])
        told_by(yard)
        self.assertEqual([yard.redo(), yard.redo()], [FIRST[9][:3] + ((),), FIRST[10]])
        self.assertEqual(told_by(yard), told_by(first()))

    def test_deeds_are_told_as_tuples(self):
        yard = Yard()
        yard.do(("machine", "a", 2))
        rows = [((1, 2), 3), ((0, -1), 4)]
        yard.do(("room", "a", "r", rows, [(1, 0), (0, 1)]))
        yard.do(("door", "a", "r", "r", "x", rows, [((1, 0), 1), ((0, 1), 2)]))
        yard.do(("begin", "a", "r", []))
        due = [("machine", "a", 2), ("room", "a", "r", (((1, 2), 3), ((0, -1), 4)), ((1, 0), (0, 1))),
               ("door", "a", "r", "r", "x", (((1, 2), 3), ((0, -1), 4)), (((1, 0), 1), ((0, 1), 2))),
               ("begin", "a", "r", ())]
        self.assertEqual(yard.past(), due)
        self.assertIs(type(yard.past()), list)
        self.assertEqual([yard.undo() for _ in due], due[::-1])
        other = Yard()
        self.assertEqual([other.do(deed) for deed in due], [None, None, 1, None])
        self.assertEqual(other.past(), due)

    def test_past_is_what_is_done_and_not_taken_back(self):
        yard = first()
        whole = yard.past()
        self.assertEqual(len(whole), len(FIRST))
        yard.undo()
        yard.undo()
        self.assertEqual(yard.past(), whole[:-2])
        yard.redo()
        self.assertEqual(yard.past(), whole[:-1])
        yard.do(("lose", "b"))
        self.assertEqual(yard.past(), whole[:-1] + [("lose", "b")])


class TogetherTest(YardCase):
    def test_as_one_deed(self):
        yard = Yard()
        self.assertEqual(yard.together(deeds=FIRST), ANSWERS)
        other = first()
        self.assertEqual(yard, other)
        whole = ("together", tuple(other.past()))
        self.assertEqual(yard.past(), [whole])
        self.assertEqual(yard.undo(), whole)
        self.assertEqual(told_by(yard), told_by(Yard()))
        self.assertRaises(Nothing, yard.undo)
        self.assertEqual(yard.redo(), whole)
        self.assertEqual(told_by(yard)[:2], told_by(other)[:2])

    def test_by_do(self):
        yard = Yard()
        for deeds in (tuple(first().past()), list(FIRST)):
            self.assertEqual(yard.do(("together", deeds)), ANSWERS)
            self.assertEqual(yard.undo(), ("together", tuple(first().past())))
            self.assertEqual(yard.redo(), ("together", tuple(first().past())))
            yard.undo()

    def test_one_deed(self):
        yard = first()
        self.assertEqual(yard.together([("door", "a", "r", "s", "x", [], AS_IT_IS)]), [2])
        self.assertEqual(yard.past()[-1], ("together", (("door", "a", "r", "s", "x", (), (((1,), 0),)),)))
        self.assertEqual(yard.together((("lose", "p"),)), [None])
        yard.undo()
        self.assertEqual(yard.machines(), ["a", "b", "p"])

    def test_refused_at_any_place(self):
        good = [("door", "a", "r", "s", "x", [], AS_IT_IS), ("lose", "p"), ("shut", "a", 1), ("machine", "c", 2)]
        bad = [(("lose", "z"), NoMachine), (("machine", "a", 1), Taken), (("shut", "a", 9), NoDoor),
               (("raze", "a", "r"), InUse), (("machine", "d", 0), BadCount)]
        for place in range(len(good) + 1):
            for deed, error in bad:
                yard = first()
                yard.do(("machine", "g", 1))
                yard.undo()
                ahead, again = told_by(yard), to_do_of(yard)
                deeds = good[:place] + [deed] + good[place:]
                for do in (lambda: yard.together(deeds), lambda: yard.do(("together", deeds))):
                    with self.assertRaises(error) as caught:
                        do()
                    self.assertIs(type(caught.exception), error)
                    self.assertEqual((told_by(yard), to_do_of(yard)), (ahead, again))
        # The first one that is refused goes.
        self.assertRaises(Taken, yard.together, good + [("machine", "a", 1), ("lose", "z")])
        self.assertEqual(yard.redo(), ("machine", "g", 1))
        self.assertEqual(yard.together(good), [2, None, None, None])

    def test_each_goes_by_those_ahead_of_it(self):
        yard = Yard()
        self.assertEqual(yard.together([("machine", "a", 1), ("room", "a", "r", [], STILL), ("pair", "b", "a", "a"),
                                        ("lose", "b"), ("lose", "a"), ("machine", "b", 3)]), [None] * 6)
        self.assertEqual(yard.machines(), ["b"])
        self.refused(Full, yard, ("together", [("machine", name, 1) for name in "acdefghi"]))

    def test_a_pair_is_looked_at_behind_each_deed(self):
        yard = first()
        self.refused(BadName, yard, ("together", [("room", "b", "u-u-u-u", [], STILL), ("lose", "p")]))
        self.assertEqual(yard.together([("lose", "p"), ("room", "b", "u-u-u-u", [], STILL)]), [None, None])


class TwinTest(YardCase):
    def test_with_the_same_to_take_back_and_to_do_again(self):
        yard = first()
        yard.undo()
        yard.undo()
        twin = yard.twin()
        self.assertEqual(told_by(twin), told_by(yard))
        self.assertEqual(to_do_of(twin), to_do_of(yard))
        self.assertEqual(twin, yard)
        ahead = told_by(yard)
        self.assertEqual(twin.redo(), ("begin", "b", "t", ()))
        twin.do(("room", "a", "u", [], STILL))
        self.assertEqual(told_by(yard), ahead)
        self.assertEqual(len(to_do_of(yard)), 2)
        yard.undo()
        self.assertEqual(len(twin.past()), 11)
        while twin.past():
            twin.undo()
        self.assertEqual(twin, Yard())
        self.assertEqual(len(yard.past()), 8)
        self.assertEqual([yard.redo() for _ in range(3)], first().past()[8:])

    def test_yards_made_apart_go_their_own_ways(self):
        one, other = first(), first()
        one.do(("lose", "p"))
        self.assertEqual(told_by(other), told_by(first()))
        other.undo()
        self.assertEqual(one, other)


class EqualTest(YardCase):
    def test_by_machines_and_names_whatever_was_done(self):
        self.assertEqual(Yard(), Yard())
        self.assertEqual(first(), first())
        one = first()
        one.do(("machine", "c", 1))
        self.assertNotEqual(one, first())
        one.do(("lose", "c"))
        self.assertEqual(one, first())
        other = Yard()
        for deed in [FIRST[1], FIRST[0]] + FIRST[2:]:
            other.do(deed)
        self.assertEqual(other, first())
        one.undo()
        self.assertNotEqual(one, first())

    def test_each_unlikeness(self):
        for deed in [("room", "a", "u", [], STILL), ("begin", "a", "s", []), ("shut", "b", 2), ("lose", "p"),
                     ("door", "a", "r", "r", "x", [], AS_IT_IS), ("pair", "q", "a", "b"), ("machine", "q", 1)]:
            other = first()
            other.do(deed)
            self.assertNotEqual(other, first())
            self.assertNotEqual(first(), other)
        one, other = first(), first()
        one.together([("door", "a", "r", "r", "x", [], AS_IT_IS), ("shut", "a", 2)])
        self.assertNotEqual(one, other)

    def test_pairs_by_the_names_they_are_made_of(self):
        yards = []
        for one, other in [("a", "b"), ("b", "a"), ("a", "a")]:
            yard = Yard()
            yard.together([("machine", "a", 1), ("machine", "b", 1), ("pair", "p", one, other)])
            yards.append(yard)
        self.assertEqual([[one == other for one in yards] for other in yards],
                         [[True, False, False], [False, True, False], [False, False, True]])
        single = Yard()
        single.together([("machine", "a", 1), ("machine", "b", 1), ("machine", "p", 2)])
        self.assertNotEqual(single, yards[0])

    def test_nothing_else(self):
        for other in (None, 0, "", [], {}, [("a", Machine(1))], Machine(1), "Yard(0 machines)", type("Y", (), {})()):
            self.assertIs(Yard() == other, False)
            self.assertIs(Yard() != other, True)


class CopiesTest(YardCase):
    def test_what_is_handed_in_can_be_changed(self):
        rows, slopes, sums = [((1,), 5)], [(1,)], [((1,), 0)]
        deeds = [("machine", "a", 1), ("room", "a", "r", rows, slopes), ("door", "a", "r", "r", "x", rows, sums),
                 ("begin", "a", "r", rows)]
        one, other = Yard(), Yard()
        for deed in deeds:
            one.do(deed)
        other.together(deeds)
        self.assertEqual((rows, slopes, sums, len(deeds)), ([((1,), 5)], [(1,)], [((1,), 0)], 4))
        aheads = told_by(one), told_by(other)
        rows.append(((2,), 9))
        slopes[0] = (7,)
        sums.clear()
        deeds.clear()
        self.assertEqual((told_by(one), told_by(other)), aheads)
        for yard in (one, other):
            while yard.past():
                yard.undo()
            while to_do_of(yard):
                yard.redo()
        self.assertEqual((told_by(one), told_by(other)), aheads)

    def test_told_machines_stand_alone(self):
        yard = first()
        ahead = told_by(yard)
        for name in "abp":
            machine = yard.machine(name)
            for number in machine.doors():
                machine.shut(number)
            machine.add_room("x-x", [], [(0,) * machine.count])
            machine.add_begin("x-x", [])
        self.assertEqual(told_by(yard), ahead)
        machine = yard.machine("a")
        kept = told(machine)
        yard.do(("shut", "a", 1))
        self.assertEqual(told(machine), kept)
        yard.undo()
        self.assertEqual(told_by(yard), ahead)

    def test_told_lists_are_new(self):
        yard = first()
        ahead = told_by(yard)
        yard.machines().append("x")
        yard.past().clear()
        yard.machine("a").room("r")[0].clear()
        self.assertEqual(told_by(yard), ahead)
        deeds = [("lose", "p"), ("machine", "p", 1)]
        answer = yard.together(deeds)
        answer.append("x")
        self.assertEqual(deeds, [("lose", "p"), ("machine", "p", 1)])
        yard.undo()
        self.assertEqual(told_by(yard), ahead)


class OwnYardTest(YardCase):
    def both(self, yard, own, ask, own_ask):
        answer = own_answer = None
        try:
            answer = ask(yard)
        except (SlopeError, Absent) as refusal:
            answer = "refused", type(refusal).__name__
        try:
            own_answer = own_ask(own)
        except Refused as refusal:
            own_answer = "refused", str(refusal)
        self.assertEqual(answer, own_answer)
        self.assertEqual(told_by(yard), own.told())
        return own_answer[1] if isinstance(own_answer, tuple) and own_answer[0] == "refused" else None

    def test_random(self):
        source = random.Random(131)
        refusals = {}
        for _ in range(100):
            yard, own = Yard(), OwnYard()
            for _ in range(60):
                kind = source.random()
                if kind < 0.15:
                    refusal = self.both(yard, own, Yard.undo, OwnYard.undo)
                elif kind < 0.25:
                    refusal = self.both(yard, own, Yard.redo, OwnYard.redo)
                else:
                    deed = some_deed(source, own)
                    if kind < 0.35:
                        deed = ("together", [deed] + [some_deed(source, own) for _ in range(source.randint(0, 2))])
                    refusal = self.both(yard, own, lambda one: one.do(deed), lambda one: one.do(deed))
                refusals[refusal] = refusals.get(refusal, 0) + 1
        due = {"BadName", "Taken", "BadCount", "Full", "NoMachine", "Derived", "InUse", "NoRoom", "BadRow", "BadSlope",
               "BadSums", "NoDoor", "Nothing", None}
        self.assertEqual(set(refusals) & due, due)

    def test_made_once_more_by_its_told_deeds(self):
        source = random.Random(132)
        for _ in range(20):
            own = filled(source, 60)
            yard = Yard()
            for deed, _ in own.done:
                yard.do(deed)
            other, third = Yard(), Yard()
            for deed in yard.past():
                other.do(deed)
            third.together(yard.past())
            self.assertEqual(told_by(other), told_by(yard))
            self.assertEqual(told_by(third)[:4], told_by(yard)[:4])
            self.assertEqual((yard, yard), (other, third))


if __name__ == "__main__":
    unittest.main()
