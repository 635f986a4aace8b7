"""The tests' own plans of machines: what is in them, walked and written down without a line of the program.

Only `build` and `told` speak with the program, and they do it by what a Machine tells and lets.
"""

from fractions import Fraction

from slopeyard.machine import Machine
from tests.reckoning import box, come_to, pair, random_sums, value

NAMES = ["a", "b", "hall", "abcdefgh", "a-b", "b-a", "one-two-three-four", "abcdefgh-abcdefgh-abcdefgh-abcdefgh",
         "z", "zz", "zzz", "cellar-left"]


class Plan:
    """A machine as the tests have it: `doors` by their numbers, all else as a Machine tells it."""

    def __init__(self, count):
        self.count = count
        self.rooms = {}
        self.doors = {}
        self.begins = []


def build(plan):
    machine = Machine(plan.count)
    for name, (rows, slopes) in plan.rooms.items():
        machine.add_room(name, rows, slopes)
    for number, (first, behind, word, rows, sums) in plan.doors.items():
        assert machine.add_door(first, behind, word, rows, sums) == number
    for number, (room, rows) in enumerate(plan.begins):
        assert machine.add_begin(room, rows) == number
    return machine


def told(machine):
    """All that a machine tells."""
    return (machine.count, len(machine), repr(machine), machine.coming(),
            [(name, machine.room(name)) for name in machine.rooms()],
            [(number, machine.door(number)) for number in machine.doors()], machine.begins())


def as_told(plan):
    """All that the machine of the plan should tell."""
    text = f"Machine({plan.count} levels, {len(plan.rooms)} rooms, {len(plan.doors)} doors)"
    return (plan.count, len(plan.rooms), text, max(plan.doors, default=0) + 1, list(plan.rooms.items()),
            list(plan.doors.items()), plan.begins)


def loose_rows(source, count, many):
    """Rows that states near nought keep rather often."""
    return [(tuple(source.randint(-3, 3) for _ in range(count)), source.randint(-1, 12)) for _ in range(many)]


def random_slopes(source, count):
    return [tuple(source.randint(-3, 3) for _ in range(count)) for _ in range(source.randint(1, 4))]


def random_plan(source, count=None, names=tuple(NAMES)):
    plan = Plan(count or source.randint(1, 4))
    count = plan.count
    names = source.sample(names, source.randint(1, 4))
    for name in names:
        rows = box(count, -8, 8)[:source.randint(0, 6)] + loose_rows(source, count, source.randint(0, 2))
        plan.rooms[name] = (rows, random_slopes(source, count))
    for number in range(1, source.randint(1, 8) + 1):
        plan.doors[number] = (source.choice(names), source.choice(names), source.choice(["fill", "x", "drain"]),
                              loose_rows(source, count, source.randint(0, 2)), random_sums(source, count, count, 1))
    for _ in range(source.randint(1, 3)):
        plan.begins.append((source.choice(names), loose_rows(source, count, source.randint(0, 2))))
    return plan


# States are tuples of Fractions from here on.

def keeps_all(rows, state):
    return all(come_to(weights, [pair(level) for level in state]) <= bound for weights, bound in rows)


def behind_stay(state, slopes, times):
    for slope, time in zip(slopes, times):
        state = tuple(level + number * time for level, number in zip(state, slope))
    return state


def behind_sums(state, sums):
    return tuple(sum((weight * level for weight, level in zip(weights, state)), Fraction(more))
                 for weights, more in sums)


def walk(plan, run):
    """The fault of the run, or None, and where it ends, as the plan alone tells."""
    begin, state, steps = run
    state = tuple(value(level) for level in state)
    if begin not in range(len(plan.begins)) or len(state) != plan.count:
        return ("begin", begin), None
    room, rows = plan.begins[begin]
    if not keeps_all(rows, state) or not keeps_all(plan.rooms[room][0], state):
        return ("begin", begin), None
    moment = Fraction(0)
    for place, step in enumerate(steps):
        rows, slopes = plan.rooms[room]
        if isinstance(step, int):
            first, behind, _, own, sums = plan.doors.get(step, (None,) * 5)
            if first != room or not keeps_all(own, state):
                return ("step", place), None
            room, state = behind, behind_sums(state, sums)
        else:
            times = [value(time) for time in step]
            if len(times) != len(slopes) or any(time < 0 for time in times):
                return ("step", place), None
            state, moment = behind_stay(state, slopes, times), moment + sum(times)
        if not keeps_all(plan.rooms[room][0], state):
            return ("step", place), None
    return None, (room, tuple(pair(level) for level in state), pair(moment))
