"""The walls of what sums set of the states of other walls, found from outside: all rows, cut down by states.

A row is a list of weights for what is set, and its bound with the other sign. A cut is a state that is set, and
a one, or a way without end, and a nought, or so many times these: a row that is above nought there isn't kept.
"""

from slopeyard.corners import ENDLESS
from slopeyard.vectors import blended, dot, shortened, unit, weighed


class Cone:
    """All rows that some cuts leave: lines (rows that are left with either sign) and sides add up to them.

    `marks` has for each side the cuts at which it is nought, as the bits of a number.
    """

    def __init__(self, length):
        self.length = length
        self.lines = [unit(length, length - 1 - place) for place in range(length)]
        self.sides = []
        self.marks = []
        self.cuts = 0

    def cut(self, by):
        """Leaves the rows that aren't above nought there."""
        values = [dot(line, by) for line in self.lines]
        turning = [place for place, value in enumerate(values) if value]
        if turning:
            self._cut_line(by, turning[0], values)
        else:
            self._cut_sides(by)
        self.cuts += 1

    def _cut_line(self, by, place, values):
        """Makes a side of the line in the place, and turns all else along it till it is nought there."""
        mark = 1 << self.cuts
        line, value = self.lines[place], values[place]
        if value > 0:
            line, value = [-number for number in line], -value
        lines = self.lines[:place] + self.lines[place + 1:]
        self.lines = [_turned(other, line, value, by) for other in lines]
        self.sides = [_turned(side, line, value, by) for side in self.sides] + [line]
        self.marks = [old | mark for old in self.marks] + [mark - 1]

    def _cut_sides(self, by):
        mark = 1 << self.cuts
        values = [dot(side, by) for side in self.sides]
        born = self._between(values)
        stay = [place for place, value in enumerate(values) if value <= 0]
        marks = [self.marks[place] if values[place] else self.marks[place] | mark for place in stay]
        self.sides = [self.sides[place] for place in stay] + [side for side, _ in born]
        self.marks = marks + [both | mark for _, both in born]

    def _between(self, values):
        """The sides at nought between neighbours above and below it, each with the marks of both."""
        above = [place for place, value in enumerate(values) if value > 0]
        born = []
        for one in above:
            for other, both in self._neighbours(one):
                if values[other] < 0:
                    side = blended(self.sides[other], values[one], self.sides[one], values[other])
                    born.append((shortened(side), both))
        return born

    def _neighbours(self, one):
        """The places of the sides beside this one, each with the marks of both: no third side has all of these."""
        mark = self.marks[one]
        shared = {}
        for place, marks in enumerate(self.marks):
            both = mark & marks
            shared[both] = -1 if both in shared else place
        del shared[mark]
        fewest = self.length - len(self.lines) - 2
        counted = [(f"{both:b}".count("1"), both, place) for both, place in shared.items()]
        widest = []
        found = []
        for _, both, place in sorted([entry for entry in counted if entry[0] >= fewest], reverse=True):
            if any([both & more == both for more in widest]):
                continue
            widest.append(both)
            if place >= 0:
                found.append((place, both))
        return found


def _turned(numbers, line, value, by):
    worth = dot(numbers, by)
    return shortened(blended(numbers, -value, line, -worth)) if worth else numbers


def seen(corner, sums, den):
    """The walls, none needless, of what the sums, over the den, set of the states of a settled corner's walls.

    There is no row of what they set that all these states meet.
    """
    cone = Cone(len(sums) + 1)
    cone.cut(_set_by(sums, den, corner.point, corner.part))
    while cone.lines:
        line = cone.lines[0]
        cone.cut(_breaking(corner, sums, den, line) or _breaking(corner, sums, den, [-number for number in line]))
    sure = 0
    while sure < len(cone.sides):
        side = cone.sides[sure]
        by = _breaking(corner, sums, den, side) if any(side[:-1]) else []
        if by:
            # The sides that are sure are kept by all states, so they stand ahead of all others, as they are.
            cone.cut(by)
        else:
            sure += 1
    return [tuple(side) for side in cone.sides if any(side[:-1])]


def _breaking(corner, sums, den, row):
    """A cut by what is set of a state, or of a way without end, at which the row is above nought, or []."""
    columns = [weights for weights, _ in sums]
    if corner.climb(weighed(columns, row[:-1])) == ENDLESS:
        return _set_by(sums, den, corner.ray, 0)
    by = _set_by(sums, den, corner.point, corner.part)
    return by if dot(row, by) > 0 else []


def _set_by(sums, den, point, part):
    return shortened([dot(weights, point) + more * part for weights, more in sums] + [den * part])
