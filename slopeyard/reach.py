"""What is come to by one trail: the lots behind it and ahead of it, and a run by it."""

from slopeyard.asked import begin_of, check_rows, check_trail, led_to
from slopeyard.errors import BadState
from slopeyard.moves import as_they_are, moved, timely, untimed
from slopeyard.strides import come_to, door_stride, empty_lot, first_stride


def behind(machine, trail=(), *, begin=0):
    """The lot of the states in which some run from the beginning by the trail ends."""
    room, _ = begin_of(machine, begin)
    check_trail(machine, trail)
    if led_to(machine, room, trail) is None:
        return empty_lot(machine.count)
    return _lots_along(machine, begin, trail)[-1]


def run_by(machine, state, trail=(), *, begin=0):
    """A run from the beginning by the trail that ends in the state, or None."""
    room, _ = begin_of(machine, begin)
    check_trail(machine, trail)
    if len(state) != machine.count:
        raise BadState("the state has another count of levels")
    if led_to(machine, room, trail) is None:
        return None
    lots = _lots_along(machine, begin, trail[:-1]) if trail else []
    return run_through(machine, begin, trail, lots, state)


def _lots_along(machine, begin, trail):
    """The lots behind a trail that fits: the first one of the beginning, and one behind each door."""
    lot = first_stride(machine, begin).land()
    lots = [lot]
    for number in trail:
        lot = door_stride(machine, number, lot.rows()).land()
        lots.append(lot)
    return lots


def run_through(machine, begin, trail, lots, state):
    """A run that ends in the state, or None; the lots are those ahead of each of the trail's doors."""
    steps = []
    for place in reversed(range(len(trail))):
        led = door_stride(machine, trail[place], lots[place].rows()).led_by(state)
        if led is None:
            return None
        state, times = led
        steps = [trail[place], times] + steps
    led = first_stride(machine, begin).led_by(state)
    if led is None:
        return None
    state, times = led
    return begin, state, [times] + steps


def before(machine, room, rows, trail=()):
    """The lot of the states from which by the trail, a stay ahead of it and behind each door, the rows are kept."""
    machine.room(room)
    check_rows(machine, rows)
    check_trail(machine, trail)
    first = machine.door(trail[0])[0] if trail else room
    if led_to(machine, first, trail) != room:
        return empty_lot(machine.count)
    lot = _ahead_of_stay(machine, room, rows)
    for number in reversed(list(trail)):
        first, _, _, own, sums = machine.door(number)
        still = [moved(row, sums, []) for row in lot.rows()]
        lot = _ahead_of_stay(machine, first, own + still)
    return lot


def _ahead_of_stay(machine, name, rows):
    """The lot of the states of a room from which by a stay the rows are kept."""
    own, slopes = machine.room(name)
    many = len(slopes)
    back = [tuple([-number for number in slope]) for slope in slopes]
    kept = [untimed(row, many) for row in [*rows, *own]] + timely(machine.count, many)
    return come_to(kept, as_they_are(machine.count), back, own)
