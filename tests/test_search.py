import random
import unittest

from slopeyard.errors import BadCount, BadRow, NoRoom, Nothing
from slopeyard.looker import paper_fault
from slopeyard.lots import Lot
from slopeyard.machine import Machine
from slopeyard.reach import behind
from slopeyard.runs import run_end
from slopeyard.search import Search
from tests.machines import build, told, walk
from tests.reckoning import keeps, value
from tests.searching import OwnSearch, asked_rows, narrow_plan, own_fault
from tests.simplex import ENDLESS

BIG = 10 ** 20 - 1
AS_IT_IS = [((1,), 0)]


def at(number):
    return [((1,), number), ((-1,), -number)]


def between(low, high):
    return [((-1,), -low), ((1,), high)]


def still(many_rooms=1):
    """Rooms a, b, c.. of one level in which nothing moves."""
    machine = Machine(1)
    for place in range(many_rooms):
        machine.add_room("abcdefghijkl"[place], [], [(0,)])
    return machine


def steps_up():
    """From nought one up by each door, without an end."""
    machine = still()
    machine.add_door("a", "a", "up", [], [((1,), 1)])
    machine.add_begin("a", at(0))
    return machine


def told_by(search):
    """All that a search tells."""
    answers = [search.word(), search.lots(), search.trails(), search.left()]
    for ask in (search.run, search.paper):
        try:
            answers.append(ask())
        except Nothing:
            answers.append("nothing")
    return answers


class SearchCase(unittest.TestCase):
    def stands(self, search, word, many, left):
        self.assertEqual((search.word(), len(search.lots()), search.left()), (word, many, left))
        self.assertEqual(len(search.trails()), many)
        if word != "come":
            self.assertRaises(Nothing, search.run)
        if word != "never":
            self.assertRaises(Nothing, search.paper)


class WordTest(SearchCase):
    def test_come_at_once(self):
        search = Search(steps_up(), "a", at(0))
        self.stands(search, "open", 1, 1)
        self.assertEqual(search.go(), "come")
        self.stands(search, "come", 1, 0)
        self.assertEqual(search.run(), (0, ((0, 1),), [[(0, 1)]]))

    def test_come_after_some_steps(self):
        search = Search(steps_up(), "a", at(3))
        for step in range(3):
            self.assertEqual(search.go(), "open")
            self.stands(search, "open", step + 2, 1)
        self.assertEqual(search.go(), "come")
        self.stands(search, "come", 4, 0)
        self.assertEqual(search.trails(), [(0, []), (0, [1]), (0, [1, 1]), (0, [1, 1, 1])])
        stay = [(0, 1)]
        self.assertEqual(search.run(), (0, ((0, 1),), [stay, 1, stay, 1, stay, 1, stay]))

    def test_a_lot_of_the_asked_room_is_not_gone_through(self):
        machine = still(2)
        machine.add_door("a", "b", "x", [], AS_IT_IS)
        machine.add_begin("a", between(0, 5))
        search = Search(machine, "a", at(5))
        self.assertEqual(search.go(9), "come")
        self.stands(search, "come", 1, 0)

    def test_lots_that_are_left_over_where_it_came(self):
        machine = steps_up()
        for number in (10, 20, 30):
            machine.add_begin("a", at(number))
        search = Search(machine, "a", at(10))
        self.assertEqual(search.go(2), "come")
        self.stands(search, "come", 5, 3)
        self.assertEqual(search.trails()[4], (0, [1]))
        self.assertEqual(search.run()[0], 1)

    def test_never(self):
        machine = still(2)
        machine.add_door("a", "b", "x", [((1,), 2)], [((2,), 0)])
        machine.add_begin("a", between(0, 5))
        search = Search(machine, "b", [((-1,), -5)])
        self.assertEqual(search.go(), "open")
        self.stands(search, "open", 2, 1)
        self.assertEqual(search.go(), "never")
        self.stands(search, "never", 2, 0)
        self.assertEqual(Search(machine, "b", [((-1,), -4)]).go(2), "come")

    def test_never_as_soon_as_the_last_lot_is_looked_at(self):
        machine = still()
        machine.add_begin("a", at(0))
        search = Search(machine, "a", at(1))
        self.stands(search, "open", 1, 1)
        self.assertEqual(search.go(1), "never")

    def test_nothing_is_found_at_first(self):
        for machine in (still(), steps_up()):
            if machine.doors():
                machine = still()
                machine.add_begin("a", [((0,), -1)])
                machine.add_begin("a", [((1,), 0), ((-1,), -1)])
            search = Search(machine, "a", [])
            self.stands(search, "never", 0, 0)
            self.assertEqual(search.go(), "never")
            lots, begins, steps, clear = search.paper()
            self.assertEqual((lots, len(begins), steps, clear), ([], len(machine.begins()), [], []))
            self.assertIsNone(paper_fault(machine, "a", [], search.paper()))

    def test_open(self):
        search = Search(steps_up(), "a", at(-1), most=3)
        self.assertEqual([search.go(), search.go(), search.go()], ["open"] * 3)
        self.stands(search, "open", 3, 0)
        ahead = told_by(search)
        self.assertEqual(search.go(BIG), "open")
        self.assertEqual(told_by(search), ahead)

    def test_one_more_than_most_among_the_first_ones(self):
        machine = still()
        for number in (1, 2, 3):
            machine.add_begin("a", at(number))
        for most in (1, 2):
            search = Search(machine, "a", at(1), most=most)
            self.stands(search, "open", most, most)
            self.assertEqual(search.go(), "open")
            self.stands(search, "open", most, most)
        search = Search(machine, "a", at(1), most=3)
        self.assertEqual(search.go(), "come")
        machine.add_begin("a", between(1, 1))
        self.assertEqual(Search(machine, "a", at(9), most=3).go(3), "never")

    def test_just_as_many_as_most_and_one_more(self):
        machine = still()
        machine.add_door("a", "a", "up", [((1,), 3)], [((1,), 1)])
        machine.add_begin("a", at(0))
        self.assertEqual(Search(machine, "a", at(9), most=5).go(40), "never")
        self.assertEqual(len(Search(machine, "a", at(9), most=5).lots()), 1)
        search = Search(machine, "a", at(9), most=4)
        self.assertEqual(search.go(40), "open")
        self.stands(search, "open", 4, 0)
        self.assertEqual(Search(machine, "a", at(3), most=4).go(40), "come")
        self.assertEqual(Search(machine, "a", at(4), most=4).go(40), "open")

    def test_most_is_twenty_where_none_is_told_and_forty_at_most(self):
        for most in (20, 40):
            search = Search(steps_up(), "a", at(-1)) if most == 20 else Search(steps_up(), "a", at(-1), most=40)
            self.assertEqual(search.go(100), "open")
            self.stands(search, "open", most, 0)
        self.assertEqual(Search(steps_up(), "a", at(39), most=40).go(40), "come")
        self.assertEqual(Search(steps_up(), "a", at(39), most=39).go(40), "open")
        self.assertEqual(Search(steps_up(), "a", at(0), most=1).go(), "come")

    def test_over_in_the_midst_of_the_doors(self):
        machine = still()
        for more in (1, 2, 3):
            machine.add_door("a", "a", "up", [], [((0,), more)])
        machine.add_begin("a", at(0))
        search = Search(machine, "a", at(2), most=2)
        self.assertEqual(search.go(), "open")
        self.stands(search, "open", 2, 1)
        self.assertEqual(search.go(), "open")
        self.stands(search, "open", 2, 1)


class FoundTest(SearchCase):
    def test_doors_by_rising_numbers_and_lots_in_their_order(self):
        machine = still(3)
        machine.add_door("a", "c", "x", [], [((1,), 1)])
        machine.add_door("b", "a", "x", [], [((1,), 9)])
        machine.add_door("a", "b", "x", [], [((1,), 2)])
        machine.add_begin("a", at(0))
        machine.add_begin("c", at(7))
        search = Search(machine, "c", at(99), most=6)
        self.assertEqual(search.trails(), [(0, []), (1, [])])
        search.go()
        self.assertEqual(search.trails(), [(0, []), (1, []), (0, [1]), (0, [3])])
        self.assertEqual([room for room, _ in search.lots()], ["a", "c", "c", "b"])
        search.go(9)
        self.assertEqual(search.trails()[4:], [(0, [3, 2]), (0, [3, 2, 1])])

    def test_lots_within_single_ones_alone_are_left_out(self):
        machine = still(2)
        for low, high in [(0, 5), (1, 4), (5, 9), (3, 7), (0, 9), (0, 9)]:
            machine.add_begin("a", between(low, high))
        machine.add_begin("b", between(1, 4))
        search = Search(machine, "a", [])
        # From 3 to 7 is not within a single one, though it lies within two together.
        self.assertEqual(search.trails(), [(number, []) for number in (0, 2, 3, 4, 6)])
        self.assertEqual([room for room, _ in search.lots()], ["a"] * 4 + ["b"])

    def test_empty_lots_are_left_out(self):
        machine = still(2)
        machine.add_begin("a", [((0,), -1)])
        machine.add_begin("a", at(3))
        machine.add_door("a", "b", "x", [((1,), 2)], AS_IT_IS)
        machine.add_door("a", "b", "y", [((1,), 3)], AS_IT_IS)
        search = Search(machine, "b", [], most=2)
        self.assertEqual(search.trails(), [(1, [])])
        search.go()
        self.assertEqual(search.trails(), [(1, []), (1, [2])])

    def test_found_lots_have_just_the_states_behind_their_trails(self):
        machine = Machine(2)
        machine.add_room("a", [((1, 0), 4), ((-1, 0), 0)], [(1, 1), (0, -1)])
        machine.add_room("b", [((0, 1), 3)], [(0, 1)])
        machine.add_door("a", "b", "x", [((-1, 0), -2)], [((0, 1), 0), ((1, 0), -2)])
        machine.add_door("b", "a", "y", [], [((0, 0), 1), ((1, 0), 0)])
        machine.add_begin("a", [((1, 1), 1), ((-1, -1), 0), ((0, 1), 1), ((0, -1), 0)])
        search = Search(machine, "b", [((0, -1), -4)])
        search.go(6)
        self.assertGreater(len(search.lots()), 5)
        for (room, rows), (begin, trail) in zip(search.lots(), search.trails()):
            self.assertEqual(Lot(2, rows), behind(machine, trail, begin=begin))

    def test_told_lots_do_not_hang_on_the_asked_rows(self):
        source = random.Random(91)
        for _ in range(30):
            plan = narrow_plan(source, source.randint(1, 3))
            machine, told_so = build(plan), []
            for rows in ([((0,) * plan.count, -1)], asked_rows(source, plan.count), asked_rows(source, plan.count)):
                search = Search(machine, source.choice(list(plan.rooms)), rows, most=5)
                search.go(5)
                told_so.append(search.lots())
            for lots in told_so[1:]:
                self.assertEqual(lots, told_so[0][:len(lots)])


class OwnSearchTest(SearchCase):
    def right_rows(self, source, plan, search):
        def told_rows(place, come_to):
            room, rows = search.lots()[place]
            self.assertEqual(room, come_to.room)
            self.assertTrue(come_to.lies_in(rows))
            lot = Lot(plan.count, rows)
            for _ in range(3):
                weights = tuple(source.randint(-3, 3) for _ in range(plan.count))
                most = come_to.most(weights)
                told_most = lot.most(weights)
                self.assertEqual(told_most and value(told_most), None if most == ENDLESS else most)
            return rows
        return told_rows

    def check_told(self, plan, search, own):
        machine, (room, rows) = build(plan), own.asked
        if own.word == "come":
            run = search.run()
            fault, end = walk(plan, run)
            self.assertIsNone(fault)
            self.assertEqual(end[0], room)
            self.assertTrue(keeps(rows, end[1]))
            self.assertEqual(run_end(machine, run), end)
            self.assertEqual((run[0], run[2][1::2]), search.trails()[own.looked - 1])
        if own.word == "never":
            self.assertIsNone(own_fault(plan, room, rows, search.paper()))
            self.assertIsNone(paper_fault(machine, room, rows, search.paper()))

    def test_random(self):
        source = random.Random(92)
        words = {}
        for _ in range(400):
            plan = narrow_plan(source, source.choice([1, 1, 2, 2, 3]))
            room, rows = source.choice(list(plan.rooms)), asked_rows(source, plan.count)
            most = source.choice([1, 2, 3, 6, 9])
            search = Search(build(plan), room, rows, most=most)
            own = OwnSearch(plan, room, rows, most, self.right_rows(source, plan, search))
            while True:
                self.stands(search, own.word, len(own.found), len(own.found) - own.looked)
                self.assertEqual(search.trails(), [(begin, trail) for _, _, begin, trail in own.found])
                if own.over:
                    break
                search.go()
                own.look()
            self.assertEqual(search.go(3), own.word)
            self.check_told(plan, search, own)
            at_once = Search(build(plan), room, rows, most=most)
            at_once.go(40)
            self.assertEqual(told_by(at_once), told_by(search))
            words[own.word] = words.get(own.word, 0) + 1
        self.assertGreater(min(words.values()), 30)
        self.assertEqual(len(words), 3)


class RefusalsTest(SearchCase):
    def test_in_their_order(self):
        machine = steps_up()
        ahead = told(machine)
        bad = [((1,), 0), ((1, 1), 0)]
        self.assertRaises(NoRoom, Search, machine, "b", bad, most=0)
        self.assertRaises(BadRow, Search, machine, "a", bad, most=0)
        self.assertRaises(BadRow, Search, machine, "a", [((), 0)])
        for most in (0, -1, 41, BIG, -BIG):
            self.assertRaises(BadCount, Search, machine, "a", [], most=most)
        self.assertRaises(TypeError, Search, machine, "a", [], 5)
        self.assertEqual(told(machine), ahead)

    def test_go(self):
        search = Search(steps_up(), "a", at(1))
        ahead = told_by(search)
        for many in (0, -1, -BIG):
            self.assertRaises(BadCount, search.go, many)
        self.assertEqual(told_by(search), ahead)
        self.assertEqual(search.go(many=2), "come")
        self.assertRaises(BadCount, search.go, 0)

    def test_rows_beyond_what_a_machine_can_have(self):
        rows = [((BIG,), BIG * 3), ((-BIG,), -BIG * 3)] * 15
        self.assertEqual(Search(steps_up(), "a", rows).go(9), "come")
        rows = rows + [((2 * BIG,), BIG * 5)]
        self.assertEqual(Search(steps_up(), "a", rows).go(9), "open")


class CopiesTest(SearchCase):
    def test_by_the_machine_as_it_was(self):
        machine = steps_up()
        search = Search(machine, "a", at(2))
        machine.shut(1)
        machine.add_room("b", [], [(1,)])
        machine.add_door("a", "a", "down", [], [((1,), -1)])
        self.assertEqual(search.go(9), "come")
        self.assertEqual(search.run()[2][1::2], [1, 1])

    def test_what_is_handed_in_stays_and_can_be_changed(self):
        machine, rows = steps_up(), at(2)
        ahead = told(machine)
        search = Search(machine, "a", rows)
        self.assertEqual(rows, at(2))
        rows.append(((1,), 0))
        rows[0] = ((1,), -5)
        self.assertEqual(search.go(9), "come")
        self.assertEqual(told(machine), ahead)

    def test_told_lists_are_new_and_asking_twice_tells_the_same(self):
        machine = still(2)
        machine.add_door("a", "b", "x", [((1,), 2)], [((2,), 0)])
        machine.add_door("a", "b", "y", [((1,), -1)], [((2,), 0)])
        machine.add_begin("a", between(0, 5))
        machine.add_begin("a", [((0,), -1)])
        for rows in ([((-1,), -5)], [((-1,), -4)]):
            search = Search(machine, "b", rows)
            search.go(9)
            ahead = told_by(search)
            for one in told_by(search):
                self.spoil(one)
            self.assertEqual(told_by(search), ahead)

    def spoil(self, thing):
        if isinstance(thing, (list, tuple)):
            for part in thing:
                self.spoil(part)
        if isinstance(thing, list):
            thing.append("more")
            thing[0] = "other"

    def test_kinds(self):
        machine = still(2)
        machine.add_door("a", "b", "x", [((1,), 2)], [((2,), 0)])
        machine.add_door("a", "b", "y", [((1,), -1)], [((2,), 0)])
        machine.add_begin("a", between(0, 5))
        search = Search(machine, "b", [((-1,), -5)])
        search.go(9)
        self.assertEqual([type(one) for one in search.lots() + search.trails()], [tuple] * 4)
        self.assertEqual([type(rows) for _, rows in search.lots()], [list] * 2)
        self.assertEqual([type(one) for _, rows in search.lots() for row in rows for one in row], [tuple, int] * 4)
        lots, begins, steps, clear = search.paper()
        self.assertEqual([type(one) for one in (search.paper(), lots, begins, steps, clear)], [tuple] + [list] * 4)
        (word, place, papers), = begins
        self.assertEqual((word, place, type(papers), type(papers[0]), type(papers[0][1])), ("in", 0, list, tuple, list))
        self.assertEqual([(step[:2], step[2][0]) for step in steps], [((0, 1), "in"), ((0, 2), "none")])
        self.assertEqual((type(steps[1]), type(steps[1][2]), type(steps[1][2][1])), (tuple, tuple, list))
        self.assertEqual((type(clear[0]), clear[0][0], type(clear[0][1])), (tuple, 1, list))


if __name__ == "__main__":
    unittest.main()
