"""Lifted rows: what a beginning or a door asks for, over a state and the times of the stay that follows.

The weights for the state's levels stand first, and behind them those for the times.
"""

from slopeyard.errors import BadRow, NoBeginning
from slopeyard.vectors import dot, unit, weighed


def begin_rows(machine, begin):
    """The rows of a beginning and of the stay from it, over the state in which it begins and the stay's times."""
    name, own = _begin(machine, begin)
    rows, slopes = machine.room(name)
    many = len(slopes)
    still = _as_they_are(machine.count)
    ahead = [_untimed(row, many) for row in own + rows]
    return ahead + _timely(machine.count, many) + [_moved(row, still, slopes) for row in rows]


def begin_goal(machine, begin, row):
    """The row of the state behind the stay from a beginning, over the state in which it begins and the times."""
    name, _ = _begin(machine, begin)
    _check_rows(machine, [row])
    _, slopes = machine.room(name)
    return _moved(row, _as_they_are(machine.count), slopes)


def door_rows(machine, number, rows):
    """These rows, and those of a door and of the stay behind it, over the state ahead of it and the stay's times."""
    _, name, _, own, sums = machine.door(number)
    _check_rows(machine, rows)
    behind, slopes = machine.room(name)
    many = len(slopes)
    ahead = [_untimed(row, many) for row in [*rows, *own]]
    set_so = [_untimed(_moved(row, sums, []), many) for row in behind]
    return ahead + set_so + _timely(machine.count, many) + [_moved(row, sums, slopes) for row in behind]


def door_goal(machine, number, row):
    """The row of the state behind the stay behind a door, over the state ahead of the door and the times."""
    _, name, _, _, sums = machine.door(number)
    _check_rows(machine, [row])
    _, slopes = machine.room(name)
    return _moved(row, sums, slopes)


def _begin(machine, begin):
    begins = machine.begins()
    if not 0 <= begin < len(begins):
        raise NoBeginning("there is no such beginning")
    return begins[begin]


def _check_rows(machine, rows):
    if any([len(weights) != machine.count for weights, _ in rows]):
        raise BadRow("a row has another count of weights")


def _as_they_are(count):
    """Sums that set each level as it is."""
    return [(unit(count, place), 0) for place in range(count)]


def _untimed(row, many):
    """The row of the state alone, with so many times behind it that don't count."""
    weights, bound = row
    return (*weights, *[0] * many), bound


def _timely(count, many):
    """For each of so many times behind so many levels the row by which it is not below nought."""
    return [((*[0] * count, *[-number for number in unit(many, place)]), 0) for place in range(many)]


def _moved(row, sums, slopes):
    """The row of the state that the sums set and that then moves along the slopes."""
    weights, bound = row
    ahead = weighed([columns for columns, _ in sums], weights)
    along = [dot(weights, slope) for slope in slopes]
    return (*ahead, *along), bound - dot(weights, [more for _, more in sums])
