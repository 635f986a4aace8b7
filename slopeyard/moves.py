"""How states go on, along the slopes of a stay and by the sums of a door, and rows of the states behind these."""

from slopeyard.parts import lowest, over_one_den, plus
from slopeyard.rows import holds
from slopeyard.vectors import dot, unit, weighed


def keeps(state, rows):
    """Whether the state keeps all the rows."""
    return all([holds(row, state) for row in rows])


def stayed(state, slopes, times):
    """The state behind a stay of these times ahead of which it is this one."""
    nums, den = over_one_den(times)
    return tuple([plus(level, (change, den)) for level, change in zip(state, weighed(slopes, nums))])


def stay_length(times):
    """The sum of the times of a stay."""
    nums, den = over_one_den(times)
    return lowest(sum(nums), den)


def set_by(sums, state):
    """The state that the sums set of this one."""
    nums, den = over_one_den(state)
    return tuple([lowest(dot(weights, nums) + more * den, den) for weights, more in sums])


def as_they_are(count):
    """Sums that set each level as it is."""
    return [(unit(count, place), 0) for place in range(count)]


def untimed(row, many):
    """The row of the state alone, with so many times behind it that don't count."""
    weights, bound = row
    return (*weights, *[0] * many), bound


def timely(count, many):
    """For each of so many times behind so many levels the row by which it is not below nought."""
    return [((*[0] * count, *[-number for number in unit(many, place)]), 0) for place in range(many)]


def moved(row, sums, slopes):
    """The row of the state that the sums set and that then moves along the slopes."""
    weights, bound = row
    ahead = weighed([columns for columns, _ in sums], weights)
    along = [dot(weights, slope) for slope in slopes]
    return (*ahead, *along), bound - dot(weights, [more for _, more in sums])
