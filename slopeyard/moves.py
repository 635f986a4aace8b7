"""How states go on: along the slopes of a stay, and by the sums of a door."""

from slopeyard.parts import lowest, over_one_den, plus
from slopeyard.rows import holds
from slopeyard.vectors import dot, weighed


def keeps(state, rows):
    """Whether the state keeps all the rows."""
    return all([holds(row, state) for row in rows])


def stayed(state, slopes, times):
    """The state behind a stay of these times ahead of which it is this one."""
    nums, den = over_one_den(times)
    return tuple([plus(level, (change, den)) for level, change in zip(state, weighed(slopes, nums))])


def stay_length(times):
    """The sum of the times of a stay."""
    nums, den = over_one_den(times)
    return lowest(sum(nums), den)


def set_by(sums, state):
    """The state that the sums set of this one."""
    nums, den = over_one_den(state)
    return tuple([lowest(dot(weights, nums) + more * den, den) for weights, more in sums])
