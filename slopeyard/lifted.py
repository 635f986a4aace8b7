"""Lifted rows: what a beginning or a door asks for, over a state and the times of the stay that follows.

The weights for the state's levels stand first, and behind them those for the times.
"""

from slopeyard.asked import begin_of, check_rows
from slopeyard.moves import as_they_are, moved, timely, untimed


def begin_rows(machine, begin):
    """The rows of a beginning and of the stay from it, over the state in which it begins and the stay's times."""
    name, own = begin_of(machine, begin)
    rows, slopes = machine.room(name)
    many = len(slopes)
    still = as_they_are(machine.count)
    ahead = [untimed(row, many) for row in own + rows]
    return ahead + timely(machine.count, many) + [moved(row, still, slopes) for row in rows]


def begin_goal(machine, begin, row):
    """The row of the state behind the stay from a beginning, over the state in which it begins and the times."""
    name, _ = begin_of(machine, begin)
    check_rows(machine, [row])
    _, slopes = machine.room(name)
    return moved(row, as_they_are(machine.count), slopes)


def door_rows(machine, number, rows):
    """These rows, and those of a door and of the stay behind it, over the state ahead of it and the stay's times."""
    _, name, _, own, sums = machine.door(number)
    check_rows(machine, rows)
    behind, slopes = machine.room(name)
    many = len(slopes)
    ahead = [untimed(row, many) for row in [*rows, *own]]
    set_so = [untimed(moved(row, sums, []), many) for row in behind]
    return ahead + set_so + timely(machine.count, many) + [moved(row, sums, slopes) for row in behind]


def door_goal(machine, number, row):
    """The row of the state behind the stay behind a door, over the state ahead of the door and the times."""
    _, name, _, _, sums = machine.door(number)
    check_rows(machine, [row])
    _, slopes = machine.room(name)
    return moved(row, sums, slopes)
