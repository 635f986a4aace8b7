"""The tests' own walker: he goes door by door, however long that takes, and never leaps."""

from fractions import Fraction

from tests.machines import NAMES, Plan, behind_stay, behind_sums, keeps_all, loose_rows
from tests.reckoning import box, pair, units, value


def walked_plan(source):
    """A plan through which one mostly gets some way."""
    plan = Plan(source.choice([1, 1, 2]))
    count = plan.count
    names = source.sample(NAMES, source.randint(1, 3))
    for name in names:
        rows = [row for row in box(count, source.randint(-6, 0), source.randint(1, 6)) if source.random() < 0.7]
        plan.rooms[name] = (rows, [tuple(source.choice([0, 1, -1, 2, -3]) for _ in range(count))
                                   for _ in range(source.choice([1, 2]))])
    for number in range(1, source.randint(2, 6)):
        kind = source.random()
        if kind < 0.6:
            sums = [(weights, source.choice([0, 0, 0, 1, -3])) for weights, _ in units(count)]
        elif kind < 0.8:
            sums = [((0,) * count, source.randint(-2, 3)) for _ in range(count)]
        else:
            sums = [(tuple(source.choice([0, 0, 1, 1, -1, 2]) for _ in range(count)), source.randint(-2, 2))
                    for _ in range(count)]
        rows = loose_rows(source, count, source.choice([0, 1, 2]))
        if source.random() < 0.7:
            weights = tuple(source.choice([0, 1, -1]) for _ in range(count))
            rows = [(tuple(-weight for weight in weights), source.randint(-4, 4))]
        plan.doors[number] = (source.choice(names), source.choice(names), "x", rows, sums)
    return plan


class OwnWalker:
    def __init__(self, plan, room, state):
        self.plan = plan
        self.room = room
        self.state = tuple(value(level) for level in state)
        self.moment = Fraction(0)
        self.taken = 0

    def told(self):
        return (self.room, tuple(pair(level) for level in self.state)), pair(self.moment), self.taken

    def led(self, time):
        """None where he is led so, else the name of the refusal."""
        ahead = (self.room, self.state, self.moment, self.taken)
        refusal = self.go(self.moment + value(time))
        if refusal is not None:
            self.room, self.state, self.moment, self.taken = ahead
        return refusal

    def go(self, end):
        known = {(self.room, self.state): self.moment}
        counted = 0
        while True:
            delay, number = self.next_door()
            if number is None or self.moment + delay > end:
                return self.stay(end)
            if counted == 60:
                return "Wandering"
            self.state = behind_stay(self.state, self.slopes(), [delay])
            self.moment += delay
            self.state = behind_sums(self.state, self.plan.doors[number][4])
            self.room = self.plan.doors[number][1]
            self.taken += 1
            counted += 1
            here = (self.room, self.state)
            if here in known:
                if known[here] == self.moment:
                    return "Whirling"
                counted = 0
            known[here] = self.moment

    def slopes(self):
        return self.plan.rooms[self.room][1][:1]

    def stay(self, end):
        state = behind_stay(self.state, self.slopes(), [end - self.moment])
        if not keeps_all(self.plan.rooms[self.room][0], state):
            return "Stuck"
        self.state, self.moment = state, end
        return None

    def next_door(self):
        """How long it is till the next door, and its number; of the moments to try, the first that does."""
        best = (None, None)
        for number in sorted(self.plan.doors):
            first = self.plan.doors[number][0]
            if first == self.room:
                for delay in self.moments(number):
                    if best[0] is not None and delay >= best[0]:
                        break
                    if self.can_take(number, delay):
                        best = (delay, number)
                        break
        return best

    def all_rows(self, number, delay):
        """What must be kept so long from now for the door: pairs of rows and the state that must keep them."""
        _, behind, _, own, sums = self.plan.doors[number]
        state = behind_stay(self.state, self.slopes(), [delay])
        return [(self.plan.rooms[self.room][0] + own, state),
                (self.plan.rooms[behind][0], behind_sums(state, sums))]

    def can_take(self, number, delay):
        return all(keeps_all(rows, state) for rows, state in self.all_rows(number, delay))

    def moments(self, number):
        """Now, and each moment from now on at which one of the rows is just kept, rising."""
        found = {Fraction(0)}
        now, later = self.all_rows(number, Fraction(0)), self.all_rows(number, Fraction(1))
        for (rows, state), (_, other) in zip(now, later):
            for weights, bound in rows:
                worth = sum(weight * level for weight, level in zip(weights, state))
                rise = sum(weight * level for weight, level in zip(weights, other)) - worth
                if rise:
                    found.add((bound - worth) / rise)
        return sorted(moment for moment in found if moment >= 0)
