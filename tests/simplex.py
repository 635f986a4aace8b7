"""The tests' own simplex: a plain table of whole numbers, all over one den.

Rows are pairs (weights, bound) over levels that may be below nought; ties likewise, but kept just to the bound.
"""

from fractions import Fraction
from math import lcm

ENDLESS = "endless"
PATIENCE = 8


def greatest(rows, count, goal, ties=()):
    """The greatest to which the goal comes where all rows and ties are kept: None where nothing keeps them."""
    table = Table(rows, count, ties)
    if not table.keeps_all():
        return None
    scale = lcm(*[Fraction(number).denominator for number in goal])
    most = table.climb([int(number * scale) for number in goal] + [-int(number * scale) for number in goal])
    return most if most == ENDLESS else most / scale


class Table:
    """Lines of numbers over `den`: each level as the difference of two, a spare for each row, one made up for each."""

    def __init__(self, rows, count, ties):
        self.lines = []
        self.den = 1
        self.width = 2 * count + len(rows)
        self.base = []
        many = len(rows) + len(ties)
        for place, (weights, bound) in enumerate([*rows, *ties]):
            scale = lcm(*[Fraction(number).denominator for number in (*weights, bound)])
            whole = [int(weight * scale) for weight in weights]
            line = whole + [-weight for weight in whole] + [int(spot == place) for spot in range(len(rows))]
            line.append(int(bound * scale))
            # A spare that isn't below nought needs nothing made up.
            has_spare = place < len(rows) and line[-1] >= 0
            if line[-1] < 0:
                line = [-number for number in line]
            self.lines.append(line[:-1] + [int(spot == place) for spot in range(many)] + line[-1:])
            self.base.append((2 * count if has_spare else self.width) + place)

    def keeps_all(self):
        """Leaves nothing made up in the base, where that can be; lines that say nothing go."""
        if not self.lines:
            return True
        made_up = [0] * self.width + [-1] * len(self.lines)
        if self.climb(made_up) != 0:
            return False
        for spot in reversed(range(len(self.lines))):
            if self.base[spot] >= self.width:
                entry = next((place for place in range(self.width) if self.lines[spot][place]), None)
                if entry is None:
                    del self.lines[spot], self.base[spot]
                else:
                    self.swap(spot, entry)
        self.lines = [line[:self.width] + line[-1:] for line in self.lines]
        return True

    def climb(self, goal):
        """The greatest to which the goal comes, one number for each place (those behind are noughts), or ENDLESS."""
        width = len(self.lines[0]) - 1 if self.lines else self.width
        goal = goal + [0] * (width - len(goal))
        stalls = 0
        while True:
            prices = [number * self.den for number in goal]
            worth = 0
            for line, held in zip(self.lines, self.base):
                if goal[held]:
                    prices = [price - goal[held] * number for price, number in zip(prices, line)]
                    worth += goal[held] * line[-1]
            rising = [(-prices[place], place) for place in range(width) if prices[place] > 0]
            if not rising:
                return Fraction(worth, self.den)
            # The steepest way, but the first one where that may go round.
            entry = min(rising)[1] if stalls < PATIENCE else min(place for _, place in rising)
            ends = [(Fraction(line[-1], line[entry]), self.base[spot], spot)
                    for spot, line in enumerate(self.lines) if line[entry] > 0]
            if not ends:
                return ENDLESS
            end, _, spot = min(ends)
            stalls = 0 if end else stalls + 1
            self.swap(spot, entry)

    def swap(self, spot, entry):
        pivot = self.lines[spot][entry]
        by = self.lines[spot]
        if pivot < 0:
            by, pivot = [-number for number in by], -pivot
        for other, line in enumerate(self.lines):
            if other != spot:
                times = line[entry]
                self.lines[other] = [(one * pivot - times * number) // self.den for one, number in zip(line, by)]
        self.lines[spot] = by
        self.den = pivot
        self.base[spot] = entry


def kept_somewhere(rows, count, ties=()):
    return Table(rows, count, ties).keeps_all()


def all_keep(rows, count, row, ties=()):
    """Whether each state that keeps the rows and the ties keeps this row, too."""
    most = greatest(rows, count, row[0], ties)
    return most is None or most != ENDLESS and most <= row[1]
