"""Lots: what states keep all of some rows, told with weights that anybody can add up."""

from slopeyard.corners import ENDLESS, TOP, Corner
from slopeyard.errors import BadCount, BadRow, BadState, BadSums, NoLevel
from slopeyard.images import imaged
from slopeyard.parts import lowest, over_one_den
from slopeyard.rows import plain_row, rows_text
from slopeyard.vectors import dot, placed, shortened, unit, weighed

_MOST_LEVELS = 8


class Lot:
    """The states of so many levels that keep all the rows."""

    def __init__(self, count, rows=()):
        if not 1 <= count <= _MOST_LEVELS:
            raise BadCount("a lot has 1 to 8 levels")
        for weights, _ in rows:
            _check_weights(weights, count)
        self.count = count
        self._rows = _unlike([plain_row(row) for row in rows])
        self._corner = Corner(count, [(*weights, -bound) for weights, bound in self._rows])
        self._barring = self._corner.settle()

    def rows(self):
        """The rows in plain form, in their order, alike ones once."""
        return list(self._rows)

    def __len__(self):
        return len(self._rows)

    def __eq__(self, other):
        return isinstance(other, Lot) and self.count == other.count and self.within(other) and other.within(self)

    def __str__(self):
        return str(rows_text(self._rows))

    def __repr__(self):
        return f"Lot({self.count}, {len(self._rows)} rows)"

    def has(self, state):
        """Whether the state keeps all rows."""
        if len(state) != self.count:
            raise BadState("the state has another count of levels")
        nums, den = over_one_den(state)
        for weights, bound in self._rows:
            if dot(weights, nums) > bound * den:
                return False
        return True

    def is_empty(self):
        """Whether no state keeps all rows."""
        return len(self._barring) > 0

    def state(self):
        """One of the states, or None."""
        if self._barring:
            return None
        return tuple([lowest(number, self._corner.part) for number in self._corner.point])

    def bars(self):
        """Weights for rows() that bar them, or None."""
        if not self._barring:
            return None
        return self._weights(self._barring, [])

    def shows(self, row):
        """A paper that shows the row from rows(), or None."""
        weights, bound = row
        _check_weights(weights, self.count)
        if self._barring:
            return None
        corner = self._corner.twin()
        if corner.climb(weights, bound) != TOP:
            return None
        numbers = self._weights(corner.shares(weights), [corner.part])
        return numbers[0], numbers[1:]

    def most(self, weights, *, least=False):
        """The greatest (or least) number to which the levels, each times its weight, come together, or None."""
        _check_weights(weights, self.count)
        if self._barring:
            return None
        sign = -1 if least else 1
        goal = [sign * weight for weight in weights]
        corner = self._corner.twin()
        if corner.climb(goal) == ENDLESS:
            return None
        return lowest(sign * dot(goal, corner.point), corner.part)

    def meet(self, other):
        """The lot of the states of both."""
        self._check_count(other)
        return Lot(self.count, self.rows() + other.rows())

    def within(self, other):
        """Whether each state is one of the other lot."""
        self._check_count(other)
        if self._barring:
            return True
        corner = self._corner.twin()
        known = {row: True for row in self._rows}
        for weights, bound in other.rows():
            if (weights, bound) not in known and corner.climb(weights, bound) != TOP:
                return False
        return True

    def shadow(self, level):
        """The lot of what is left of the states when the level is left out."""
        if not 0 <= level < self.count:
            raise NoLevel("there is no such level")
        if self.count == 1:
            raise BadCount("a lot has one level at least")
        return self._image([(unit(self.count, place), 0) for place in range(self.count) if place != level])

    def image(self, sums):
        """The lot of the states that the sums set of the states."""
        if not 1 <= len(sums) <= _MOST_LEVELS:
            raise BadSums("a lot has 1 to 8 levels")
        if any([len(weights) != self.count for weights, _ in sums]):
            raise BadSums("a sum has another count of weights")
        return self._image(sums)

    def source(self, sums):
        """The lot of the states of which the sums set states of this lot."""
        if len(sums) != self.count:
            raise BadSums("there are not as many sums as levels")
        count = len(sums[0][0])
        if not 1 <= count <= _MOST_LEVELS or any([len(weights) != count for weights, _ in sums]):
            raise BadSums("the sums have no count of weights in common that a lot can have")
        columns = [weights for weights, _ in sums]
        added = [more for _, more in sums]
        return Lot(count, [(weighed(columns, weights), bound - dot(weights, added)) for weights, bound in self._rows])

    def _image(self, sums):
        if self._barring:
            return Lot(len(sums), [([0] * len(sums), -1)])
        walls = imaged(self._corner, sums)
        return Lot(len(sums), [(wall[:-1], -wall[-1]) for wall in walls])

    def _check_count(self, other):
        if self.count != other.count:
            raise BadCount("the lots have unlike counts of levels")

    def _weights(self, pairs, ahead):
        """What stands ahead, and a weight for each row, as the pairs (row's place, weight) tell, in lowest terms."""
        return shortened(ahead + placed(pairs, len(self._rows)))


def _check_weights(weights, count):
    if len(weights) != count:
        raise BadRow("a row has another count of weights")


def _unlike(rows):
    """The rows, alike ones once."""
    found = {}
    for row in rows:
        found[row] = True
    return list(found)
