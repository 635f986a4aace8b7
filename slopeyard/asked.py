"""What a machine is asked about: whether it is there and fits."""

from slopeyard.errors import BadRow, NoBeginning


def begin_of(machine, begin):
    """The room and the rows of a beginning."""
    begins = machine.begins()
    if not 0 <= begin < len(begins):
        raise NoBeginning("there is no such beginning")
    return begins[begin]


def check_rows(machine, rows):
    """Refuses rows of another count of weights than the machine has levels."""
    if any([len(weights) != machine.count for weights, _ in rows]):
        raise BadRow("a row has another count of weights")


def check_trail(machine, trail):
    """Refuses a trail with a door that isn't there."""
    for number in trail:
        machine.door(number)


def led_to(machine, room, trail):
    """The room to which the trail's doors lead from this one, or None where they don't fit one another."""
    for number in trail:
        first, behind, _, _, _ = machine.door(number)
        if first != room:
            return None
        room = behind
    return room
