"""Strides: what is come to by a stay from a beginning, or through a door and by the stay behind it."""

from slopeyard.corners import TOP, Corner
from slopeyard.images import imaged
from slopeyard.lifted import begin_rows, door_rows
from slopeyard.lots import Lot
from slopeyard.moves import as_they_are, moved
from slopeyard.parts import lowest
from slopeyard.slim import slimmed
from slopeyard.vectors import dot, placed, shortened, unit


class Stride:
    """What is come to in a room by a stay that keeps the lifted rows, over the state ahead of it and its times.

    The sums tell how that state is set anew ahead of the stay. The last of the lifted rows are those of the room,
    of the state behind the stay.
    """

    def __init__(self, machine, name, lifted, sums):
        self.name = name
        self._lifted = lifted
        self._sums = sums
        self._landing, self._slopes = machine.room(name)
        self._corner = Corner(len(lifted[0][0]), _in_one_piece(lifted))
        self._contrary = self._corner.settle()

    def bars(self):
        """Weights that bar the lifted rows, or None."""
        if not self._contrary:
            return None
        return shortened(placed(self._contrary, len(self._lifted)))

    def lies_in(self, rows):
        """Whether each state that is come to keeps all the rows."""
        if self._contrary:
            return True
        corner = self._corner
        goals = [moved(row, self._sums, self._slopes) for row in rows]
        # Where it doesn't lie in them, the state at which the corner is mostly shows it at once.
        if any([dot(weights, corner.point) > bound * corner.part for weights, bound in goals]):
            return False
        for weights, bound in goals:
            if corner.climb(weights, bound) != TOP:
                return False
        return True

    def paper(self, row):
        """A paper that shows the row's goal from the lifted rows, where each state that is come to keeps it."""
        weights, bound = moved(row, self._sums, self._slopes)
        self._corner.climb(weights, bound)
        pairs = self._corner.shares(weights)
        numbers = shortened([self._corner.part] + placed(pairs, len(self._lifted)))
        return numbers[0], numbers[1:]

    def land(self):
        """All that is come to."""
        ahead = self._lifted[:len(self._lifted) - len(self._landing)]
        return come_to(ahead, self._sums, self._slopes, self._landing)

    def led_by(self, state):
        """A state ahead and times of a stay by which the state is come to, or None."""
        goals = [moved(row, self._sums, self._slopes) for row in _just_at(state)]
        numbers, _ = kept_or_barred(self._corner.count, self._lifted + goals)
        if numbers is None:
            return None
        count = len(self._sums)
        return numbers[:count], list(numbers[count:])


def first_stride(machine, begin):
    """The stay from a beginning."""
    name, _ = machine.begins()[begin]
    return Stride(machine, name, begin_rows(machine, begin), as_they_are(machine.count))


def door_stride(machine, number, rows):
    """The door, from all states that keep the rows, and the stay behind it."""
    _, name, _, _, sums = machine.door(number)
    return Stride(machine, name, door_rows(machine, number, rows), sums)


def come_to(ahead, sums, slopes, landing):
    """The lot of what keeps the landing's rows behind sums and a stay, where these keep the rows ahead."""
    count = len(sums)
    corner = Corner(len(ahead[0][0]), _in_one_piece(ahead))
    if corner.settle():
        return empty_lot(count)
    wide = [moved((unit(count, place), 0), sums, slopes) for place in range(count)]
    walls = imaged(corner, [(weights, -bound) for weights, bound in wide]) + _in_one_piece(landing)
    lot = Lot(count, _rows_of(walls))
    return lot if lot.is_empty() else Lot(count, _rows_of(slimmed(count, walls)))


def empty_lot(count):
    """A lot without a state."""
    return Lot(count, [((0,) * count, -1)])


def kept_or_barred(count, rows):
    """A tuple of fractions that keeps the rows, and None; or None, and weights that bar them."""
    corner = Corner(count, _in_one_piece(rows))
    barring = corner.settle()
    if barring:
        return None, shortened(placed(barring, len(rows)))
    return tuple([lowest(number, corner.part) for number in corner.point]), None


def _in_one_piece(rows):
    """The rows, each in one piece."""
    return [(*weights, -bound) for weights, bound in rows]


def _rows_of(walls):
    return [(tuple(wall[:-1]), -wall[-1]) for wall in walls]


def _just_at(state):
    """Rows that are kept by this state alone."""
    rows = []
    for place, (num, den) in enumerate(state):
        weights = unit(len(state), place)
        rows.append(([den * weight for weight in weights], num))
        rows.append(([-den * weight for weight in weights], -num))
    return rows
