"""Searches: whether a machine comes to an asked lot, told by a run, or never does, told by a paper."""

from slopeyard.asked import check_rows
from slopeyard.errors import BadCount, Nothing
from slopeyard.reach import run_through
from slopeyard.strides import door_stride, first_stride, kept_or_barred

_COME = "come"
_NEVER = "never"
_OPEN = "open"
_MOST_LOTS = 40

# Stands for the place of a found lot where there is none.
_NOWHERE = -1


class Found:
    """A lot that a search has found; it came by a door from the found lot in the place `ahead`, if from any."""

    def __init__(self, name, lot, begin, trail, ahead):
        self.name = name
        self.lot = lot
        self.begin = begin
        self.trail = trail
        self.ahead = ahead


class Search:
    """A search for states of a room that keep the rows."""

    def __init__(self, machine, room, rows, *, most=20):
        machine.room(room)
        check_rows(machine, rows)
        if not 1 <= most <= _MOST_LOTS:
            raise BadCount("a search has 1 to 40 lots at most")
        self._machine = machine.twin()
        self._asked = room
        self._asked_rows = [(tuple(weights), bound) for weights, bound in rows]
        self._most = most
        self._found = []
        self._looked = 0
        self._over = False
        self._answer = _OPEN
        # In which found lot each beginning lies, and each door from each lot: (place, door, place in which).
        self._begun = []
        self._gone = []
        self._begin()

    def go(self, many=1):
        """Looks at so many lots, or till it is over; tells the word."""
        if many < 1:
            raise BadCount("a search looks at one lot at least")
        while many > 0 and not self._over:
            self._look()
            many -= 1
        return self._answer

    def word(self):
        """Whether the asked lot is come to: come, never or open."""
        return self._answer

    def lots(self):
        """The room and the rows of each found lot."""
        return [(found.name, found.lot.rows()) for found in self._found]

    def trails(self):
        """The beginning and the doors by which each found lot was found."""
        return [(found.begin, list(found.trail)) for found in self._found]

    def left(self):
        """How many of the found lots were not yet looked at."""
        return len(self._found) - self._looked

    def run(self):
        """A run that ends in the asked lot."""
        if self._answer != _COME:
            raise Nothing("there is no run")
        found = self._found[self._looked - 1]
        state, _ = self._asked_in(found)
        lots = []
        ahead = found.ahead
        while ahead != _NOWHERE:
            lots = [self._found[ahead].lot] + lots
            ahead = self._found[ahead].ahead
        return run_through(self._machine, found.begin, found.trail, lots, state)

    def paper(self):
        """A paper by which anybody sees that the asked lot is never come to."""
        if self._answer != _NEVER:
            raise Nothing("there is no paper")
        begins = [self._how(first_stride(self._machine, begin), lies) for begin, lies in enumerate(self._begun)]
        steps = [(place, number, self._how(self._stride(place, number), lies)) for place, number, lies in self._gone]
        clear = []
        for place, found in enumerate(self._found):
            if found.name == self._asked:
                _, weights = self._asked_in(found)
                clear.append((place, weights))
        return self.lots(), begins, steps, clear

    def _begin(self):
        for begin in range(len(self._machine.begins())):
            lies = self._follow(first_stride(self._machine, begin), begin, (), _NOWHERE)
            if self._over:
                return
            self._begun.append(lies)
        self._end_if_all_is_looked_at()

    def _look(self):
        place = self._looked
        found = self._found[place]
        self._looked += 1
        if found.name == self._asked and self._asked_in(found)[0] is not None:
            self._end(_COME)
            return
        for number in self._machine.doors():
            if self._machine.door(number)[0] != found.name:
                continue
            lies = self._follow(self._stride(place, number), found.begin, (*found.trail, number), place)
            if self._over:
                return
            self._gone.append((place, number, lies))
        self._end_if_all_is_looked_at()

    def _follow(self, stride, begin, trail, ahead):
        """The place of the found lot in which all lies that the stride comes to; finds it if it lies in none."""
        if stride.bars() is not None:
            return _NOWHERE
        for place, found in enumerate(self._found):
            if found.name == stride.name and stride.lies_in(found.lot.rows()):
                return place
        if len(self._found) == self._most:
            self._end(_OPEN)
            return _NOWHERE
        self._found.append(Found(stride.name, stride.land(), begin, trail, ahead))
        return len(self._found) - 1

    def _stride(self, place, number):
        return door_stride(self._machine, number, self._found[place].lot.rows())

    def _asked_in(self, found):
        """A state of the lot that keeps the asked rows, and None; or None, and weights that bar them together."""
        return kept_or_barred(self._machine.count, found.lot.rows() + self._asked_rows)

    def _how(self, stride, lies):
        """How the rows of the stride lie, as a paper tells it."""
        if lies == _NOWHERE:
            return "none", stride.bars()
        return "in", lies, [stride.paper(row) for row in self._found[lies].lot.rows()]

    def _end_if_all_is_looked_at(self):
        if self._looked == len(self._found):
            self._end(_NEVER)

    def _end(self, word):
        self._answer = word
        self._over = True
