"""The tests' own putting side by side of two plans, and their own parting of a run of both."""

from fractions import Fraction

from tests.machines import Plan
from tests.reckoning import pair, value


def own_pair(one, other):
    """A plan of both, or the name of the refusal."""
    if one.count + other.count > 4:
        return "BadCount"
    names = [(left, right) for left in one.rooms for right in other.rooms]
    if any(len(f"{left}-{right}".split("-")) > 4 for left, right in names):
        return "BadName"
    if len({f"{left}-{right}" for left, right in names}) != len(names):
        return "Taken"
    plan = Plan(one.count + other.count)
    for left, right in names:
        (rows, slopes), (others, other_slopes) = one.rooms[left], other.rooms[right]
        along = [tuple(slope) + tuple(its) for slope in slopes for its in other_slopes]
        plan.rooms[f"{left}-{right}"] = (side_by_side(one, other, rows, others), along)
    if any(len(slopes) > 4 for _, slopes in plan.rooms.values()):
        return "BadSlope"
    for door, its in door_parts(one, other):
        plan.doors[len(plan.doors) + 1] = both_through(one, other, door, its)
    for left, rows in one.begins:
        for right, others in other.begins:
            plan.begins.append((f"{left}-{right}", side_by_side(one, other, rows, others)))
    if len(plan.rooms) > 12 or len(plan.doors) > 24 or len(plan.begins) > 8:
        return "Full"
    return plan


def side_by_side(one, other, rows, others):
    return ([(tuple(weights) + (0,) * other.count, bound) for weights, bound in rows]
            + [((0,) * one.count + tuple(weights), bound) for weights, bound in others])


def door_parts(one, other):
    """For each door of both, by its number: what each takes part with, a door's number or the name of a room."""
    parts = []
    for number in sorted(one.doors):
        shared = [its for its in sorted(other.doors) if other.doors[its][2] == one.doors[number][2]]
        parts += [(number, its) for its in shared or other.rooms]
    words = {door[2] for door in one.doors.values()}
    for its in sorted(other.doors):
        if other.doors[its][2] not in words:
            parts += [(name, its) for name in one.rooms]
    return parts


def both_through(one, other, door, its):
    halves = []
    for plan, part in ((one, door), (other, its)):
        if isinstance(part, str):
            still = [(tuple(int(spot == place) for spot in range(plan.count)), 0) for place in range(plan.count)]
            halves.append((part, part, None, [], still))
        else:
            halves.append(plan.doors[part])
    (first, behind, word, rows, sums), (its_first, its_behind, its_word, others, its_sums) = halves
    set_so = [(tuple(weights) + (0,) * other.count, more) for weights, more in sums]
    set_so += [((0,) * one.count + tuple(weights), more) for weights, more in its_sums]
    return (f"{first}-{its_first}", f"{behind}-{its_behind}", word or its_word,
            side_by_side(one, other, rows, others), set_so)


def own_parted(one, other, run):
    """The run parted: of each machine its stays between the doors in which it takes part, with all times added."""
    begin, state, steps = run
    many = len(other.begins)
    places = (begin // many, begin % many)
    rooms = [one.begins[places[0]][0], other.begins[places[1]][0]]
    parts = door_parts(one, other)
    halves = [[], []]
    open_stays = [None, None]
    for step in steps:
        if isinstance(step, int):
            for side, plan in enumerate((one, other)):
                if isinstance(parts[step - 1][side], int):
                    halves[side] += [open_stays[side], parts[step - 1][side]]
                    open_stays[side] = None
                    rooms[side] = plan.doors[parts[step - 1][side]][1]
            continue
        counts = [len(plan.rooms[room][1]) for plan, room in zip((one, other), rooms)]
        for side in (0, 1):
            if open_stays[side] is None:
                open_stays[side] = [Fraction(0)] * counts[side]
        for left in range(counts[0]):
            for right in range(counts[1]):
                time = value(step[left * counts[1] + right])
                open_stays[0][left] += time
                open_stays[1][right] += time
    state = tuple(pair(value(level)) for level in state)
    told = []
    for side, its_state in enumerate((state[:one.count], state[one.count:])):
        steps = [step if isinstance(step, int) else [pair(time) for time in step]
                 for step in halves[side] + [open_stays[side]]]
        told.append((places[side], its_state, steps))
    return tuple(told)
