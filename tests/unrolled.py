"""All runs by one trail, as the tests have them: one long list of rows over the first state and all times.

A level that such a run comes to is a list of weights for these numbers and what is added to them.
"""

from fractions import Fraction

from tests.reckoning import value
from tests.simplex import ENDLESS, greatest, kept_somewhere


class Unrolled:
    """The runs from a room, or from a beginning, of a plan of tests.machines, made longer step by step."""

    def __init__(self, plan, room, rows=(), stays=True):
        self.plan = plan
        self.room = room
        self.count = plan.count
        self.levels = [([Fraction(int(spot == place)) for spot in range(plan.count)], Fraction(0))
                       for place in range(plan.count)]
        self.rows = []
        self.fits = True
        self.keep(list(rows) + plan.rooms[room][0])
        if stays:
            self.stay()

    def keep(self, rows):
        """The state that is come to by now keeps these rows."""
        for weights, bound in rows:
            self.rows.append(self.asked(weights, bound))

    def asked(self, weights, bound):
        """The row of the state that is come to by now, as one of all numbers."""
        whole = [Fraction(0)] * self.count
        for weight, (numbers, more) in zip(weights, self.levels):
            whole = [one + weight * other for one, other in zip(whole, numbers)]
            bound = bound - weight * more
        return whole, bound

    def stay(self):
        rows, slopes = self.plan.rooms[self.room]
        for slope in slopes:
            self.levels = [(numbers + [Fraction(along)], more) for (numbers, more), along in zip(self.levels, slope)]
            self.rows = [(weights + [Fraction(0)], bound) for weights, bound in self.rows]
            self.count += 1
            self.rows.append(([Fraction(0)] * (self.count - 1) + [Fraction(-1)], Fraction(0)))
        self.keep(rows)

    def through(self, number):
        first, behind, _, own, sums = self.plan.doors[number]
        if first != self.room:
            self.fits = False
            return
        self.keep(own)
        set_so = []
        for weights, more in sums:
            numbers, bound = self.asked(weights, Fraction(0))
            set_so.append((numbers, more - bound))
        self.levels = set_so
        self.room = behind
        self.keep(self.plan.rooms[behind][0])
        self.stay()

    def along(self, trail):
        for number in trail:
            if self.fits:
                self.through(number)
        return self

    def is_empty(self):
        return not self.fits or not kept_somewhere(self.rows, self.count)

    def most(self, weights):
        """The greatest to which the levels that are come to come together: None where nothing is come to."""
        if not self.fits:
            return None
        whole, bound = self.asked(weights, Fraction(0))
        most = greatest(self.rows, self.count, whole)
        return most if most in (None, ENDLESS) else most - bound

    def lies_in(self, rows):
        return all(self.most(weights) is None or self.most(weights) != ENDLESS and self.most(weights) <= bound
                   for weights, bound in rows)

    def at(self, state):
        """Ties by which the state that is come to is this one."""
        ties = []
        for place, level in enumerate(state):
            unit = [int(spot == place) for spot in range(self.plan.count)]
            ties.append(self.asked(unit, value(level)))
        return ties

    def has(self, state):
        return self.fits and kept_somewhere(self.rows, self.count, self.at(state))

    def has_from(self, state, rows):
        """Whether a run that begins in the state comes to one that keeps the rows."""
        if not self.fits:
            return False
        ties = [([int(spot == place) for spot in range(self.count)], value(level))
                for place, level in enumerate(state)]
        return kept_somewhere(self.rows + [self.asked(*row) for row in rows], self.count, ties)


def from_begin(plan, begin, trail=()):
    room, rows = plan.begins[begin]
    return Unrolled(plan, room, rows).along(trail)


def from_lot(plan, room, rows, number):
    """What is come to from the states of a lot through one door, and by the stay behind it."""
    return Unrolled(plan, room, rows, stays=False).along([number])
