"""Looks at papers by which something is never come to: whether each part of them is as it should be."""

from slopeyard.asked import check_rows
from slopeyard.lifted import begin_goal, begin_rows, door_goal, door_rows
from slopeyard.papers import bars_right, paper_right

_BARRED = "none"
_LIES_IN = "in"


def paper_fault(machine, room, rows, paper):
    """None where the paper is good; else its first wrong part and the place of the first wrong thing in it."""
    machine.room(room)
    check_rows(machine, rows)
    lots, begins, steps, clear = paper
    place = _lots_fault(machine, lots)
    if place is not None:
        return "lots", place
    place = _begins_fault(machine, lots, begins)
    if place is not None:
        return "begins", place
    place = _steps_fault(machine, lots, steps)
    if place is not None:
        return "steps", place
    place = _clear_fault(lots, room, rows, clear)
    if place is not None:
        return "clear", place
    return None


def _lots_fault(machine, lots):
    names = machine.rooms()
    for place, (name, rows) in enumerate(lots):
        if name not in names or any([len(weights) != machine.count for weights, _ in rows]):
            return place
    return None


def _begins_fault(machine, lots, begins):
    def is_right(begin, how):
        return _begin_is_right(machine, lots, begin, how)

    return _first_wrong(begins, list(range(len(machine.begins()))), is_right)


def _steps_fault(machine, lots, steps):
    def is_right(due, step):
        place, number, how = step
        return (place, number) == due and _step_is_right(machine, lots, place, number, how)

    return _first_wrong(steps, _steps_due(machine, lots), is_right)


def _steps_due(machine, lots):
    """For each lot the doors of its room: pairs of the lot's place and the door's number."""
    firsts = [(machine.door(number)[0], number) for number in machine.doors()]
    return [(place, number) for place, (name, _) in enumerate(lots) for first, number in firsts if first == name]


def _clear_fault(lots, room, asked, clear):
    def is_right(due, entry):
        place, weights = entry
        if place != due:
            return False
        rows = [*lots[place][1], *asked]
        # No rows at all are kept by each state, so that nothing bars them.
        return len(rows) > 0 and bars_right(rows, weights)

    return _first_wrong(clear, _places_of(lots, room), is_right)


def _places_of(lots, room):
    return [place for place, (name, _) in enumerate(lots) if name == room]


def _first_wrong(told, due_ones, is_right):
    """The place of the first told thing that isn't right for the due one, lacks or is too many, or None."""
    for place, due in enumerate(due_ones):
        if place == len(told) or not is_right(due, told[place]):
            return place
    return len(due_ones) if len(told) > len(due_ones) else None


def _begin_is_right(machine, lots, begin, how):
    rows = begin_rows(machine, begin)
    if how[0] == _BARRED:
        return len(how) == 2 and bars_right(rows, how[1])
    name, _ = machine.begins()[begin]
    inner = _rows_lain_in(lots, name, how)
    if inner is None:
        return False
    return _all_shown(rows, [begin_goal(machine, begin, row) for row in inner], how[2])


def _step_is_right(machine, lots, place, number, how):
    rows = door_rows(machine, number, lots[place][1])
    if how[0] == _BARRED:
        return len(how) == 2 and bars_right(rows, how[1])
    _, name, _, _, _ = machine.door(number)
    inner = _rows_lain_in(lots, name, how)
    if inner is None:
        return False
    return _all_shown(rows, [door_goal(machine, number, row) for row in inner], how[2])


def _rows_lain_in(lots, name, how):
    """The rows of the lot of the room in which something is told to lie, or None where there is no such lot."""
    if len(how) != 3 or how[0] != _LIES_IN:
        return None
    place = how[1]
    if not 0 <= place < len(lots) or lots[place][0] != name:
        return None
    return lots[place][1]


def _all_shown(rows, goals, papers):
    if len(papers) != len(goals):
        return False
    return all([paper_right(rows, goal, paper) for goal, paper in zip(goals, papers)])
