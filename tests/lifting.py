"""Lifted rows as the tests write them: what stands where is found by trying states and times one by one."""

from fractions import Fraction

from tests.machines import behind_stay, behind_sums


def written(row, count, many, go):
    """The row of the state to which `go` leads a state and times, over the numbers of both."""
    weights, bound = row

    def worth(state, times):
        return sum((weight * level for weight, level in zip(weights, go(state, times))), Fraction(0))

    none = ((Fraction(0),) * count, (Fraction(0),) * many)
    plain = worth(*none)
    numbers = []
    for place in range(count + many):
        one = [Fraction(int(spot == place)) for spot in range(count + many)]
        numbers.append(int(worth(tuple(one[:count]), one[count:]) - plain))
    return tuple(numbers), bound - int(plain)


def times_rows(count, many):
    return [((0,) * count + tuple(-int(spot == place) for spot in range(many)), 0) for place in range(many)]


def own_begin(plan, begin, goals):
    """The rows of the beginning, and the goals of these rows."""
    room, own = plan.begins[begin]
    rows, slopes = plan.rooms[room]
    count, many = plan.count, len(slopes)
    lifted = [written(row, count, many, lambda state, times: state) for row in own + rows]
    lifted += times_rows(count, many)
    lifted += [written(row, count, many, lambda state, times: behind_stay(state, slopes, times)) for row in rows]
    return lifted, [written(row, count, many, lambda state, times: behind_stay(state, slopes, times)) for row in goals]


def own_door(plan, number, ahead, goals):
    """The rows of the door for the rows ahead of it, and the goals of these rows."""
    _, room, _, own, sums = plan.doors[number]
    rows, slopes = plan.rooms[room]
    count, many = plan.count, len(slopes)

    def led(state, times):
        return behind_stay(behind_sums(state, sums), slopes, times)

    lifted = [written(row, count, many, lambda state, times: state) for row in ahead + own]
    lifted += [written(row, count, many, lambda state, times: behind_sums(state, sums)) for row in rows]
    lifted += times_rows(count, many)
    lifted += [written(row, count, many, led) for row in rows]
    return lifted, [written(row, count, many, led) for row in goals]
