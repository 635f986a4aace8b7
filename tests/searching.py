"""The tests' own search, door by door, and their own look at papers."""

from tests.lifting import own_begin, own_door
from tests.machines import NAMES, Plan, loose_rows
from tests.reckoning import bars_rightly, box, shows_rightly, units
from tests.simplex import kept_somewhere
from tests.unrolled import from_begin, from_lot


def narrow_plan(source, count):
    """A plan whose rooms have ends mostly, so that searches in it are over soon."""
    plan = Plan(count)
    names = source.sample(NAMES, source.randint(1, 3))
    for name in names:
        rows = [row for row in box(count, source.randint(-6, 0), source.randint(1, 6)) if source.random() < 0.85]
        slopes = [tuple(source.choice([0, 0, 1, -1, 2]) for _ in range(count))
                  for _ in range(source.choice([1, 1, 2, 3, 4]))]
        plan.rooms[name] = (rows, slopes)
    for number in range(1, source.randint(0, 5) + 1):
        sums = [(tuple(source.choice([0, 0, 1, 1, -1]) for _ in range(count)), source.randint(-2, 2))
                for _ in range(count)]
        if source.random() < 0.4:
            sums = [(weights, source.choice([0, 0, 1, -3])) for weights, _ in units(count)]
        plan.doors[number] = (source.choice(names), source.choice(names), source.choice("xyz"),
                              loose_rows(source, count, source.choice([0, 1, 1])), sums)
    for _ in range(source.choice([0, 1, 1, 1, 2, 3])):
        rows = [row for row in box(count, -2, 2) if source.random() < 0.7]
        plan.begins.append((source.choice(names), loose_rows(source, count, 1) + rows))
    return plan


def asked_rows(source, count):
    return [(tuple(source.choice([0, 1, -1]) for _ in range(count)), source.randint(-5, 3))
            for _ in range(source.choice([0, 1, 2, 2, 3]))]


class OwnSearch:
    """Goes as a search should. Rows of found lots are the told ones, once it is seen that they are right."""

    def __init__(self, plan, room, rows, most, told_rows):
        self.plan = plan
        self.asked = (room, rows)
        self.most = most
        self.told_rows = told_rows
        self.found = []
        self.looked = 0
        self.word = "open"
        self.over = False
        for begin in range(len(plan.begins)):
            if not self.over:
                self.find(from_begin(plan, begin), begin, [])
        self.settle()

    def find(self, come_to, begin, trail):
        if come_to.is_empty():
            return
        for room, rows, _, _ in self.found:
            if room == come_to.room and come_to.lies_in(rows):
                return
        if len(self.found) == self.most:
            self.over = True
            return
        rows = self.told_rows(len(self.found), come_to)
        self.found.append((come_to.room, rows, begin, trail))

    def settle(self):
        if not self.over and self.looked == len(self.found):
            self.word, self.over = "never", True

    def look(self):
        if self.over:
            return
        room, rows, begin, trail = self.found[self.looked]
        self.looked += 1
        if room == self.asked[0] and kept_somewhere(rows + self.asked[1], self.plan.count):
            self.word, self.over = "come", True
            return
        for number, door in self.plan.doors.items():
            if door[0] == room and not self.over:
                self.find(from_lot(self.plan, room, rows, number), begin, trail + [number])
        self.settle()


def own_fault(plan, room, rows, paper):
    """The fault of a paper as the tests see it."""
    lots, begins, steps, clear = paper
    for place, (name, lot_rows) in enumerate(lots):
        if name not in plan.rooms or any(len(weights) != plan.count for weights, _ in lot_rows):
            return "lots", place

    def lies(how, name, lifted, goals_of, width):
        if how[0] == "none":
            return barred(lifted, how[1], width)
        _, place, papers = how
        if place not in range(len(lots)) or lots[place][0] != name:
            return False
        goals = goals_of(lots[place][1])
        return len(goals) == len(papers) and all(
            len(one[1]) == len(lifted) and shows_rightly(lifted, goal, one, width)
            for goal, one in zip(goals, papers))

    def begin_right(begin, how):
        name = plan.begins[begin][0]
        width = plan.count + len(plan.rooms[name][1])
        return lies(how, name, own_begin(plan, begin, [])[0], lambda its: own_begin(plan, begin, its)[1], width)

    def step_right(due, step):
        place, number, how = step
        if (place, number) != due:
            return False
        name, ahead = plan.doors[number][1], lots[place][1]
        width = plan.count + len(plan.rooms[name][1])
        return lies(how, name, own_door(plan, number, ahead, [])[0],
                    lambda its: own_door(plan, number, ahead, its)[1], width)

    def clear_right(due, entry):
        place, weights = entry
        return place == due and barred(list(lots[place][1]) + list(rows), weights, plan.count)

    steps_due = [(place, number) for place, (name, _) in enumerate(lots)
                 for number in sorted(plan.doors) if plan.doors[number][0] == name]
    clear_due = [place for place, (name, _) in enumerate(lots) if name == room]
    for part, told, due, right in [("begins", begins, range(len(plan.begins)), begin_right),
                                   ("steps", steps, steps_due, step_right), ("clear", clear, clear_due, clear_right)]:
        for place, one in enumerate(due):
            if place >= len(told) or not right(one, told[place]):
                return part, place
        if len(told) > len(due):
            return part, len(due)
    return None


def barred(rows, weights, width):
    return len(rows) > 0 and len(rows) == len(weights) and bars_rightly(rows, weights, width)
