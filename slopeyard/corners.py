"""Corners: states in which as many walls as there are levels meet, and the ways from one to another.

A wall is a row in one piece: its weights and behind them its bound with the other sign. A corner is reckoned
in whole numbers: its columns are the inverse of the walls that meet, times `part`; and its point is over `part`.
"""

from slopeyard.vectors import blended, dot, unit, weighed

TOP = 0
OVER = 1
ENDLESS = 2

# After so many steps without gain the least numbers decide, as the steepest ways may go round in a circle.
_PATIENCE = 30


class Corner:
    """A corner of walls; at first the point of noughts, where no wall is met and each level is held still.

    `held` has for each column the place of the wall that it leaves, or -1 for a level that is held still;
    `gaps` has for each wall how far the point is behind it, times `part`: above nought where it breaks it.
    """

    def __init__(self, count, walls):
        self.count = count
        self.walls = list(walls)
        self.table = [[wall[place] for wall in self.walls] for place in range(count)]
        self.held = [-1] * count
        self.columns = [unit(count, place) for place in range(count)]
        self.point = [0] * count
        self.part = 1
        self.gaps = [wall[-1] for wall in self.walls]
        self.ray = []

    def twin(self):
        """A corner that stands alike and goes its own way."""
        other = Corner(self.count, [])
        other.walls = list(self.walls)
        other.table = [list(column) for column in self.table]
        other.held = list(self.held)
        other.columns = [list(column) for column in self.columns]
        other.point = list(self.point)
        other.part = self.part
        other.gaps = list(self.gaps)
        return other

    def narrow(self, wall):
        """Takes one wall more, which the point may break."""
        self.walls.append(wall)
        for place in range(self.count):
            self.table[place].append(wall[place])
        self.gaps.append(dot(wall, self.point) + wall[-1] * self.part)

    def settle(self):
        """Goes to a corner that keeps all walls: [], or pairs (wall's place, weight) by which they bar one another."""
        prices = [0] * self.count
        stalls = 0
        while True:
            entry = self._broken(stalls)
            if entry < 0:
                return []
            wall = self.walls[entry]
            slopes = [dot(wall, column) for column in self.columns]
            place = self._yielding(slopes, prices)
            if place < 0:
                return self._barred_by(entry, slopes)
            still = self.held[place] < 0
            old, price = self.part, prices[place]
            self._swap(place, entry, weighed(self.table, self.columns[place]))
            if still:
                # No goal is given, so that any will do: one in which each wall that is met has the same price.
                prices = [0 if one < 0 else self.part for one in self.held]
                stalls = 0
            else:
                prices = blended(prices, self.part, slopes, price, old)
                prices[place] = price
                stalls = 0 if price else stalls + 1

    def _broken(self, stalls):
        """The place of a wall that the point breaks, or -1."""
        if stalls < _PATIENCE:
            worst = max(self.gaps, default=0)
            return self.gaps.index(worst) if worst > 0 else -1
        for place, gap in enumerate(self.gaps):
            if gap > 0:
                return place
        return -1

    def _yielding(self, slopes, prices):
        """The place of what is let go so that the wall of these slopes can be met, or -1."""
        best = -1
        for place, slope in enumerate(slopes):
            if self.held[place] < 0:
                if slope:
                    return place
            elif slope > 0:
                ahead = prices[best] * slope - prices[place] * slopes[best] if best >= 0 else 1
                if ahead > 0 or ahead == 0 and self.held[place] < self.held[best]:
                    best = place
        return best

    def _barred_by(self, entry, slopes):
        pairs = [(self.held[place], -slope) for place, slope in enumerate(slopes) if slope]
        return [(entry, self.part)] + pairs

    def climb(self, goal, roof=None):
        """Goes on to where the goal is greatest: TOP; ENDLESS, with a ray, where there is no greatest.

        It is over with OVER as soon as the goal is above the roof (a whole number), where one is given.
        """
        prices = [dot(goal, column) for column in self.columns]
        stalls = 0
        while roof is None or dot(goal, self.point) <= roof * self.part:
            place = self._worth(prices, stalls)
            if place < 0:
                return TOP
            if prices[place] > 0:
                self.columns[place] = [-number for number in self.columns[place]]
                prices[place] = -prices[place]
            slants = weighed(self.table, self.columns[place])
            entry = self._hit(slants)
            if entry < 0:
                self.ray = [-number for number in self.columns[place]]
                return ENDLESS
            stalls = stalls + 1 if self.gaps[entry] == 0 else 0
            wall = self.walls[entry]
            slopes = [dot(wall, column) for column in self.columns]
            old, price = self.part, prices[place]
            self._swap(place, entry, slants)
            prices = blended(prices, self.part, slopes, -price, old)
            prices[place] = -price
        return OVER

    def _worth(self, prices, stalls):
        """The place of what to let go so that the goal rises, or -1."""
        best = -1
        for place, price in enumerate(prices):
            if self.held[place] < 0:
                if price:
                    return place
            elif price < 0:
                if best < 0:
                    best = place
                elif stalls < _PATIENCE and price < prices[best]:
                    best = place
                elif stalls >= _PATIENCE and self.held[place] < self.held[best]:
                    best = place
        return best

    def _hit(self, slants):
        """The place of the first wall that is hit along a way on which the walls lean so, or -1."""
        best = -1
        gap = slant = 0
        for place, lean in enumerate(slants):
            if lean < 0:
                room = self.gaps[place]
                if best < 0 or room * slant < gap * lean:
                    best, gap, slant = place, room, lean
        return best

    def _swap(self, place, entry, slants):
        """Lets the wall be met instead of what is held in the place, along whose column the walls lean so."""
        wall = self.walls[entry]
        column = self.columns[place]
        pivot = slants[entry]
        if pivot < 0:
            pivot = -pivot
            column = [-number for number in column]
            slants = [-slant for slant in slants]
        gap, old = self.gaps[entry], self.part
        columns = [blended(other, pivot, column, dot(wall, other), old) for other in self.columns]
        columns[place] = column
        self.columns = columns
        self.point = blended(self.point, pivot, column, gap, old)
        self.gaps = blended(self.gaps, pivot, slants, gap, old)
        self.part = pivot
        self.held[place] = entry

    def shares(self, goal):
        """At the goal's top: pairs (wall's place, weight) by which the walls add up to `part` times the goal."""
        prices = [dot(goal, column) for column in self.columns]
        return [(self.held[place], price) for place, price in enumerate(prices) if price]
