"""Runs, walked step by step: whether each step is let, and where they end."""

from slopeyard.errors import Broken
from slopeyard.moves import keeps, set_by, stay_length, stayed
from slopeyard.parts import lowest, plus


def run_fault(machine, run):
    """None where it is a run of the machine, else ("begin", number) or ("step", place)."""
    fault, _ = _walked(machine, run)
    return fault


def run_end(machine, run):
    """The room and the state in which the run ends, and the moment."""
    fault, end = _walked(machine, run)
    if fault is not None:
        raise Broken(fault)
    return end


def _walked(machine, run):
    """The run's fault, or None; and (room, state, moment) where it ends, or None."""
    begin, state, steps = run
    room = _begun(machine, begin, state)
    if room is None:
        return ("begin", begin), None
    here = (room, tuple([lowest(num, den) for num, den in state]))
    moment = (0, 1)
    for place, step in enumerate(steps):
        # Stays and doors' numbers stand by turns, a stay first.
        is_stay = place % 2 == 0
        here = _through_stay(machine, here, step) if is_stay else _through_door(machine, here, step)
        if here is None:
            return ("step", place), None
        if is_stay:
            moment = plus(moment, stay_length(step))
    return None, (*here, moment)


def _begun(machine, begin, state):
    """The room in which a run begins so, or None."""
    begins = machine.begins()
    if not 0 <= begin < len(begins) or len(state) != machine.count:
        return None
    name, own = begins[begin]
    rows, _ = machine.room(name)
    return name if keeps(state, own + rows) else None


def _through_stay(machine, here, times):
    """The room and the state behind the stay, or None where it isn't let; its rows are kept ahead of it."""
    name, state = here
    rows, slopes = machine.room(name)
    if len(times) != len(slopes) or any([num < 0 for num, _ in times]):
        return None
    state = stayed(state, slopes, times)
    return (name, state) if keeps(state, rows) else None


def _through_door(machine, here, number):
    """The room and the state behind the door, or None where it can't be taken."""
    name, state = here
    if number not in machine.doors():
        return None
    first, behind, _, own, sums = machine.door(number)
    if first != name or not keeps(state, own):
        return None
    state = set_by(sums, state)
    rows, _ = machine.room(behind)
    return (behind, state) if keeps(state, rows) else None
