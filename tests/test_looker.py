import random
import unittest

from slopeyard.errors import BadRow, NoRoom
from slopeyard.looker import paper_fault
from slopeyard.machine import Machine
from slopeyard.search import Search
from tests.machines import build, told
from tests.searching import asked_rows, narrow_plan, own_fault

BIG = 10 ** 20 - 1


def vessel():
    """One level: it begins between 0 and 1, rises by one up to 5, and from 4 on the door sets it to half of that."""
    machine = Machine(1)
    machine.add_room("a", [((1,), 5)], [(1,)])
    machine.add_room("b", [], [(0,)])
    machine.add_door("a", "b", "x", [((-1,), -4)], [((2,), 1)])
    machine.add_door("a", "b", "y", [((-1,), -6)], [((1,), 0)])
    machine.add_begin("a", [((1,), 1), ((-1,), 0)])
    machine.add_begin("b", [((1,), 0), ((-1,), -1)])
    return machine


def good():
    """By hand: the rows of a beginning in a, over (level, time): 1 0 <= 1; -1 0 <= 0; 1 0 <= 5; 0 -1 <= 0; 1 1 <= 5.

    Those of door 1 for a's lot, over (level, time): -1 0 <= 0; 1 0 <= 5; -1 0 <= -4; 0 -1 <= 0, and of door 2 likewise.
    """
    lots = [("a", [((-1,), 0), ((1,), 5)]), ("b", [((-1,), -9), ((1,), 11)])]
    begins = [("in", 0, [(1, [0, 1, 0, 1, 0]), (1, [0, 0, 0, 0, 1])]), ("none", [1, 1, 0])]
    steps = [(0, 1, ("in", 1, [(1, [0, 0, 2, 0]), (1, [0, 2, 0, 0])])), (0, 2, ("none", [0, 1, 1, 0]))]
    clear = [(1, [1, 0, 1])]
    return lots, begins, steps, clear


ASKED = [((1,), 8)]


def with_one(things, place, other):
    return things[:place] + [other] + things[place + 1:]


class ByHandTest(unittest.TestCase):
    def told(self, paper, fault, asked=ASKED, room="b"):
        machine = vessel()
        self.assertEqual(paper_fault(machine, room, asked, paper), fault)
        self.assertEqual(told(machine), told(vessel()))

    def test_good(self):
        self.told(good(), None)
        self.assertIsNone(paper_fault(paper=good(), rows=ASKED, room="b", machine=vessel()))

    def test_good_in_other_ways(self):
        lots, begins, steps, clear = good()
        # Greater lots, more of them, needless rows, rows that aren't plain, other weights, and tuples for lists.
        more = lots + [("b", [((-1,), -20)]), ("a", [((1,), -3)])]
        more_steps = steps + [(3, 1, ("none", [1, 1, 0, 0])), (3, 2, ("in", 1, [(1, [9, 0, 10, 0])] * 2))]
        more_steps[-1] = (3, 2, ("none", [1, 0, 1]))
        self.told((more, begins, more_steps, clear + [(2, [1, 1])]), ("steps", 2))
        more_steps = steps + [(3, 1, ("none", [1, 1, 0])), (3, 2, ("none", [1, 1, 0]))]
        self.told((more, begins, more_steps, clear + [(2, [1, 1])]), None)
        self.told((lots, begins, [steps[0], (0, 2, ("none", [0, 7, 7, 0]))], [(1, [9, 0, 9])]), None)
        plain = with_one(lots, 0, ("a", [((-3,), 0), ((2,), 10)]))
        steps = [(0, 1, ("in", 1, [(1, [0, 0, 2, 0]), (1, [0, 1, 0, 0])])), (0, 2, ("none", [0, 1, 2, 0]))]
        begins = [("in", 0, [(1, [0, 3, 0, 3, 0]), (1, [0, 0, 0, 0, 2])]), begins[1]]
        self.told((plain, begins, steps, clear), None)
        lots = tuple((room, tuple(rows)) for room, rows in plain)
        self.told((lots, tuple(begins), tuple(steps), tuple(clear)), None)

    def test_papers_with_many_times(self):
        lots, begins, steps, clear = good()
        begins = [("in", 0, [(3, [0, 3, 0, 3, 0]), (BIG ** 3, [0, 0, 0, 0, BIG ** 3])]), ("none", [BIG ** 3] * 2 + [0])]
        self.told((lots, begins, steps, clear), None)

    def test_lots(self):
        _, begins, steps, clear = good()
        rows = [((1,), 5)]
        for name, its_rows in [("c", rows), ("", []), ("a", [((1, 0), 5)]), ("b", rows + [((), 5)]),
                               ("a", rows * 9 + [((1, 1), 5)])]:
            for place in (0, 1, 2):
                lots = (good()[0] + [("a", [])])
                self.told((with_one(lots, place, (name, its_rows)), begins, steps, clear), ("lots", place))
                self.told((with_one(lots, place, (name, its_rows)), [], [], []), ("lots", place))

    def test_begins(self):
        lots, begins, steps, clear = good()
        shown = begins[0][2]
        wrong = [("none", [0] * 5), ("none", [1, 1, 0, 0, 0]), ("none", []), ("in", 1, shown), ("in", 2, shown),
                 ("in", -2, shown), ("in", -1, shown), ("in", 0, shown[:1]), ("in", 0, shown + shown[:1]),
                 ("in", 0, []), ("in", 0, shown[::-1]), ("in", 0, [(0, [0] * 5), shown[1]]),
                 ("in", 0, [(1, [0, 1, 0, 1]), shown[1]]), ("in", 0, [(1, [0, 1, 0, 1, 0, 0]), shown[1]]),
                 ("in", 0, [shown[0], (1, [-1, 0, 0, 0, 1])]), ("in", 0, [shown[0], (2, [0, 0, 0, 0, 1])]),
                 ("in", 0, [(1, [0, 1, 0, 0, 0]), shown[1]]), ("on", 0, shown), ("none", [0, 1, 0, 1, 0], shown),
                 ("in", 0)]
        for how in wrong:
            self.told((lots, [how, begins[1]], steps, clear), ("begins", 0))
            self.told((lots, [how], [], []), ("begins", 0))
        for how in (("none", [1, 1]), ("none", [1, 0, 0]), ("none", [1, 1, -1]), ("in", 1, [(1, [1, 0, 0])] * 2)):
            self.told((lots, [begins[0], how], steps, clear), ("begins", 1))

    def test_begins_that_lack_and_that_are_too_many(self):
        lots, begins, steps, clear = good()
        self.told((lots, [], steps, clear), ("begins", 0))
        self.told((lots, begins[:1], steps, clear), ("begins", 1))
        self.told((lots, begins + begins[1:], steps, clear), ("begins", 2))
        self.told((lots, begins + begins, [], clear), ("begins", 2))
        self.told((lots, begins[1:], steps, clear), ("begins", 0))

    def test_steps(self):
        lots, begins, steps, clear = good()
        first, second = steps
        how = first[2]
        for one in [(1, 1, how), (0, 2, how), (0, 3, how), (0, 0, how), (-2, 1, how), (0, 1, second[2]),
                    (0, 1, ("in", 0, how[2])), (0, 1, ("in", 1, how[2][:1])), (0, 1, ("in", -1, how[2])),
                    (0, 1, ("in", 1, [(1, [0, 0, 2, 0]), (2, [0, 2, 0, 0])])), second,
                    (0, 1, ("", 1, how[2])), (0, 1, ("in", 1))]:
            self.told((lots, begins, [one, second], clear), ("steps", 0))
        for one in [first, (0, 2, how), (0, 2, ("none", [1, 1, 0, 0])), (0, 2, ("none", [0, 1, 1])),
                    (0, 2, ("none", [0, 1, 1, 0, 0])), (1, 2, second[2]),
                    (0, 2, ("none", [0, 1, 1, 0], how[2]))]:
            self.told((lots, begins, [first, one], clear), ("steps", 1))

    def test_steps_that_lack_and_that_are_too_many(self):
        lots, begins, steps, clear = good()
        self.told((lots, begins, [], clear), ("steps", 0))
        self.told((lots, begins, steps[:1], clear), ("steps", 1))
        self.told((lots, begins, steps[1:], []), ("steps", 0))
        self.told((lots, begins, steps + steps[1:], clear), ("steps", 2))
        self.told((lots, begins, steps[::-1], clear), ("steps", 0))

    def test_clear(self):
        lots, begins, steps, clear = good()
        for one in [(0, [1, 0, 1]), (2, [1, 0, 1]), (-1, [1, 0, 1]), (1, [0, 0, 0]), (1, [1, 0]), (1, [1, 0, 1, 0]),
                    (1, [1, -1, 1]), (1, [1, 1, 0]), (1, [2, 0, 1])]:
            self.told((lots, begins, steps, [one]), ("clear", 0))
        self.told((lots, begins, steps, []), ("clear", 0))
        self.told((lots, begins, steps, clear * 2), ("clear", 1))
        self.told((lots, begins, steps, clear), ("clear", 0), [((1,), 9)])
        self.told((lots, begins, steps, clear), ("clear", 0), [((0,), 0)] + ASKED)
        self.told((lots, begins, steps, clear), ("clear", 0), ASKED, "a")
        self.told((lots, begins, steps, [(0, [1, 0, 1])]), ("clear", 0), [((1,), 0)], "a")
        self.told((lots, begins, steps, [(0, [1, 0, 1])]), None, [((1,), -1)], "a")

    def test_no_rows_at_all_are_barred_by_nothing(self):
        machine = Machine(1)
        machine.add_room("a", [], [(1,)])
        for weights in ([], [0], [1]):
            self.assertEqual(paper_fault(machine, "a", [], ([("a", [])], [], [], [(0, weights)])), ("clear", 0))
        self.assertIsNone(paper_fault(machine, "a", [((0,), -1)], ([("a", [])], [], [], [(0, [1])])))
        self.assertIsNone(paper_fault(machine, "a", [], ([("a", [((0,), -1)])], [], [], [(0, [1])])))
        self.assertIsNone(paper_fault(machine, "a", [], ([], [], [], [])))
        self.assertEqual(paper_fault(machine, "a", [], ([], [], [], [(0, [1])])), ("clear", 0))

    def test_lots_without_rows_hold_all(self):
        machine = vessel()
        machine.add_room("c", [], [(1,)])
        lots = [("a", []), ("b", [])]
        begins = [("in", 0, []), ("in", 1, [])]
        steps = [(0, 1, ("in", 1, [])), (0, 2, ("in", 1, []))]
        self.assertIsNone(paper_fault(machine, "c", [], (lots, begins, steps, [])))
        self.assertEqual(paper_fault(machine, "a", [], (lots, begins, steps, [(0, [])])), ("clear", 0))

    def test_the_first_wrong_part_goes(self):
        lots, begins, steps, clear = good()
        bad = [("c", [])]
        self.told((bad, [], [], []), ("lots", 0))
        self.told((lots, [], [], []), ("begins", 0))
        self.told((lots, begins, [], []), ("steps", 0))
        self.told((lots, begins, steps, []), ("clear", 0))


class RefusalsTest(unittest.TestCase):
    def test_in_their_order(self):
        machine, bad = vessel(), [((1,), 0), ((1, 1), 0)]
        ahead = told(machine)
        self.assertRaises(NoRoom, paper_fault, machine, "c", bad, good())
        self.assertRaises(BadRow, paper_fault, machine, "a", bad, good())
        self.assertRaises(BadRow, paper_fault, machine, "a", [((), 0)], ([], [], [], []))
        self.assertEqual(told(machine), ahead)

    def test_what_is_handed_in_stays(self):
        machine, paper, rows = vessel(), good(), list(ASKED)
        for _ in range(2):
            self.assertIsNone(paper_fault(machine, "b", rows, paper))
        self.assertEqual((paper, rows), (good(), ASKED))

    def test_by_the_machine_as_it_is_now(self):
        machine = vessel()
        machine.shut(2)
        lots, begins, steps, clear = good()
        self.assertEqual(paper_fault(machine, "b", ASKED, good()), ("steps", 1))
        self.assertIsNone(paper_fault(machine, "b", ASKED, (lots, begins, steps[:1], clear)))
        machine.add_begin("b", [])
        self.assertEqual(paper_fault(machine, "b", ASKED, (lots, begins, steps[:1], clear)), ("begins", 2))


class OwnLookTest(unittest.TestCase):
    def changed(self, source, paper):
        """The paper with one thing in it changed."""
        parts = [list(part) for part in paper]
        part = source.choice([place for place in range(4) if parts[place]] or [0])
        if not parts[part] or source.random() < 0.1:
            parts[part] = parts[part][:-1] if source.random() < 0.5 else parts[part] + parts[part][-1:]
            return tuple(parts)
        spot = source.randrange(len(parts[part]))
        parts[part][spot] = self.other(source, parts[part][spot])
        return tuple(parts)

    def other(self, source, thing):
        if isinstance(thing, int):
            return thing + source.choice([-1, 1, 1, 2])
        if isinstance(thing, str):
            return thing if thing in ("in", "none") else "attic"
        if not thing or source.random() < 0.05:
            whole = isinstance(thing, list) or all(isinstance(one, int) for one in thing)
            return thing + thing[-1:] if whole else thing
        kind, spot = type(thing), source.randrange(len(thing))
        return kind([self.other(source, one) if place == spot else one for place, one in enumerate(thing)])

    def test_random(self):
        source = random.Random(101)
        faults = {}
        for _ in range(250):
            plan = narrow_plan(source, source.choice([1, 1, 2, 3]))
            room, rows = source.choice(list(plan.rooms)), asked_rows(source, plan.count)
            machine = build(plan)
            search = Search(machine, room, rows, most=8)
            if search.go(8) != "never":
                continue
            paper = search.paper()
            self.assertIsNone(paper_fault(machine, room, rows, paper))
            for _ in range(12):
                other = self.changed(source, paper)
                fault = own_fault(plan, room, rows, other)
                self.assertEqual(paper_fault(machine, room, rows, other), fault)
                faults[fault and fault[0]] = faults.get(fault and fault[0], 0) + 1
        self.assertEqual(set(faults), {None, "lots", "begins", "steps", "clear"})
        self.assertGreater(min(faults.values()), 15)


if __name__ == "__main__":
    unittest.main()
