"""Walks: one leading of a walker, door by door, with rounds leapt over."""

from slopeyard.errors import Stuck, Wandering, Whirling
from slopeyard.moves import moved, set_by, stayed
from slopeyard.parts import less, lowest, minus, over_one_den, plus, times
from slopeyard.vectors import dot

_MOST_DOORS = 60
_NOUGHT = (0, 1)


class Walk:
    """Where a walker stands who is led for a time, what of it is spent and what is left, and the doors taken."""

    def __init__(self, machine, name, state, time):
        self.name = name
        self.standing = state
        self.spent = _NOUGHT
        self.doors_taken = 0
        self._machine = machine
        self._rest = time
        self._one_by_one = 0
        # When each room and state was first come to, and behind how many doors.
        self._known = {(name, state): (_NOUGHT, 0)}

    def finish(self):
        """Goes on till the time is over."""
        while True:
            number, delay = self._next_door()
            if number is None:
                break
            if self._one_by_one == _MOST_DOORS:
                raise Wandering("more than 60 doors are to be taken one by one")
            self._take(number, delay)
        rows, slopes = self._machine.room(self.name)
        _, last = _kept_between(self.standing, slopes[0], rows)
        if last is not None and less(last, self._rest):
            raise Stuck("the room's rows would be broken")
        self._stay(self._rest)

    def _next_door(self):
        """The door that is taken next in what time is left, and how long it is till then; None where there is none."""
        rows, slopes = self._machine.room(self.name)
        best, delay = None, self._rest
        for number in self._machine.doors():
            first, behind, _, own, sums = self._machine.door(number)
            if first != self.name:
                continue
            set_so = [moved(row, sums, []) for row in self._machine.room(behind)[0]]
            between = _kept_between(self.standing, slopes[0], rows + own + set_so)
            if between is None:
                continue
            start, _ = between
            if less(start, delay) or best is None and start == delay:
                best, delay = number, start
        return best, delay

    def _take(self, number, delay):
        self._stay(delay)
        _, self.name, _, _, sums = self._machine.door(number)
        self.standing = set_by(sums, self.standing)
        self.doors_taken += 1
        self._one_by_one += 1
        here = (self.name, self.standing)
        if here in self._known:
            spent, doors_taken = self._known[here]
            self._come_again(spent, doors_taken)
        else:
            self._known[here] = (self.spent, self.doors_taken)

    def _come_again(self, spent, doors_taken):
        """Leaps over the round since then as often as it fits."""
        length = minus(self.spent, spent)
        if length == _NOUGHT:
            raise Whirling("a room and a state come again at the same moment")
        many = self._rest[0] * length[1] // (self._rest[1] * length[0])
        self._pass(times((many, 1), length))
        self.doors_taken += many * (self.doors_taken - doors_taken)
        self._one_by_one = 0

    def _stay(self, time):
        _, slopes = self._machine.room(self.name)
        self.standing = stayed(self.standing, slopes[:1], [time])
        self._pass(time)

    def _pass(self, time):
        self.spent = plus(self.spent, time)
        self._rest = minus(self._rest, time)


def _kept_between(state, slope, rows):
    """Between which moments the rows are kept by a state that goes along the slope: (first, last), or None.

    The first one is from nought on, the last one may be None.
    """
    nums, den = over_one_den(state)
    first, last = _NOUGHT, None
    for weights, bound in rows:
        gap = bound * den - dot(weights, nums)
        rise = dot(weights, slope) * den
        if rise == 0 and gap < 0:
            return None
        if rise > 0 and (last is None or less((gap, rise), last)):
            last = lowest(gap, rise)
        if rise < 0 and less(first, (-gap, -rise)):
            first = lowest(-gap, -rise)
    if last is not None and less(last, first):
        return None
    return first, last
