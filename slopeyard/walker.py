"""Walkers, who are led through a machine along the first slopes of its rooms."""

from slopeyard.errors import BadState, BadTimes
from slopeyard.moves import keeps
from slopeyard.parts import lowest, plus
from slopeyard.walks import Walk


class Walker:
    """A walker in a room and a state of a machine, as it was when he was made."""

    def __init__(self, machine, room, state):
        rows, _ = machine.room(room)
        if len(state) != machine.count or not keeps(state, rows):
            raise BadState("the state is not one of the room")
        self._machine = machine.twin()
        self._name = room
        self._state = tuple([lowest(num, den) for num, den in state])
        self._moment = (0, 1)
        self._taken = 0

    def led(self, time):
        """Leads him for a time."""
        num, den = time
        if num < 0:
            raise BadTimes("a time is not below nought")
        walk = Walk(self._machine, self._name, self._state, lowest(num, den))
        walk.finish()
        self._name = walk.name
        self._state = walk.standing
        self._moment = plus(self._moment, walk.spent)
        self._taken += walk.doors_taken

    def place(self):
        """The room and the state in which he stands."""
        return self._name, self._state

    def moment(self):
        """How long he was led."""
        return self._moment

    def taken(self):
        """How many doors he has taken."""
        return self._taken
