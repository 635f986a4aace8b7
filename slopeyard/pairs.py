"""Machines side by side, and runs of both parted into a run of each."""

from slopeyard.bounds import MOST_SLOPES, check_name
from slopeyard.errors import BadCount, BadSlope, Full, Taken
from slopeyard.machine import MOST_BEGINS, MOST_DOORS, MOST_LEVELS, MOST_ROOMS, assembled
from slopeyard.moves import as_they_are
from slopeyard.parts import lowest, plus


def pair(one, other):
    """The two machines side by side."""
    count = one.count + other.count
    if count > MOST_LEVELS:
        raise BadCount("a machine has 1 to 4 levels")
    rooms = _rooms(one, other)
    doors = [_door(one, other, parts) for parts in _door_parts(one, other)]
    begins = _begins(one, other)
    if len(rooms) > MOST_ROOMS or len(doors) > MOST_DOORS or len(begins) > MOST_BEGINS:
        raise Full("a machine has at most 12 rooms, 24 doors and 8 beginnings")
    return assembled(count, rooms, doors, begins)


def parted(one, other, run):
    """The run of each of the two, of a run of both side by side."""
    begin, state, steps = run
    begins = other.begins()
    place, other_place = divmod(begin, len(begins))
    other_name, _ = begins[other_place]
    parts = _door_parts(one, other)
    own, others = [], []
    for spot, step in enumerate(steps):
        if spot % 2 == 0:
            across = len(other.room(other_name)[1])
            _stay_on(own, [step[at:at + across] for at in range(0, len(step), across)])
            _stay_on(others, [step[at::across] for at in range(across)])
            continue
        number, other_number, _ = parts[step - 1]
        if number is not None:
            own.append(number)
        if other_number is not None:
            others.append(other_number)
            other_name = other.door(other_number)[1]
    state = tuple([lowest(num, den) for num, den in state])
    return (place, state[:one.count], own), (other_place, state[one.count:], others)


def _stay_on(steps, shares):
    """Goes on with a stay, each of whose times is told in several shares: with the last step, where it is one."""
    times = [_total(fractions) for fractions in shares]
    if len(steps) % 2 == 0:
        steps.append(times)
    else:
        steps[-1] = [plus(before, time) for before, time in zip(steps[-1], times)]


def _total(fractions):
    total = (0, 1)
    for fraction in fractions:
        total = plus(total, fraction)
    return total


def _rooms(one, other):
    pairs = [(name, other_name) for name in one.rooms() for other_name in other.rooms()]
    names = [_both(name, other_name) for name, other_name in pairs]
    for name in names:
        check_name(name)
    if len(set(names)) < len(names):
        raise Taken("two rooms would have one name")
    rooms = {}
    for name, other_name in pairs:
        rows, slopes = one.room(name)
        other_rows, other_slopes = other.room(other_name)
        along = [(*slope, *other_slope) for slope in slopes for other_slope in other_slopes]
        if len(along) > MOST_SLOPES:
            raise BadSlope("a room would have more than 4 slopes")
        rooms[_both(name, other_name)] = (_rows(one, other, rows, other_rows), tuple(along))
    return rooms


def _begins(one, other):
    begins = []
    for name, rows in one.begins():
        for other_name, other_rows in other.begins():
            begins.append((_both(name, other_name), _rows(one, other, rows, other_rows)))
    return begins


def _door_parts(one, other):
    """For each door of both: its number in each (None where it takes no part), and the room of the one that doesn't."""
    words = {number: one.door(number)[2] for number in one.doors()}
    other_words = {number: other.door(number)[2] for number in other.doors()}
    parts = []
    for number, word in words.items():
        shared = [its for its, its_word in other_words.items() if its_word == word]
        if shared:
            parts += [(number, its, None) for its in shared]
        else:
            parts += [(number, None, name) for name in other.rooms()]
    taken = list(words.values())
    for number, word in other_words.items():
        if word not in taken:
            parts += [(None, number, name) for name in one.rooms()]
    return parts


def _door(one, other, parts):
    number, other_number, name = parts
    first, behind, word, rows, sums = _half(one, number, name)
    other_first, other_behind, other_word, other_rows, other_sums = _half(other, other_number, name)
    set_so = [((*weights, *[0] * other.count), more) for weights, more in sums]
    set_so += [((*[0] * one.count, *weights), more) for weights, more in other_sums]
    return (_both(first, other_first), _both(behind, other_behind), word or other_word,
            _rows(one, other, rows, other_rows), tuple(set_so))


def _half(machine, number, name):
    """The door, or one without a word that leaves all in the room as it is."""
    if number is None:
        return name, name, "", [], as_they_are(machine.count)
    return machine.door(number)


def _both(name, other_name):
    return f"{name}-{other_name}"


def _rows(one, other, rows, other_rows):
    ahead = [((*weights, *[0] * other.count), bound) for weights, bound in rows]
    return (*ahead, *[((*[0] * one.count, *weights), bound) for weights, bound in other_rows])
