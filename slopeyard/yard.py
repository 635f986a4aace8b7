"""Yards of machines, whose deeds are taken back and done again."""

from slopeyard.deeds import done, frozen
from slopeyard.errors import Nothing
from slopeyard.stock import Stock


class Yard:
    """A yard, at first without a machine."""

    def __init__(self):
        self._stock = Stock()
        # Deeds, each with the stock as it is on the other side of it: ahead of what is done, behind what is to do.
        self._done = []
        self._to_do = []

    def do(self, deed):
        """Does the deed; a door tells its number, several together a list of what they tell."""
        deed = frozen(deed)
        stock = self._stock.copied()
        told = done(stock, deed)
        self._done.append((deed, self._stock))
        self._stock = stock
        self._to_do = []
        return told

    def undo(self):
        """Takes back the last deed, and tells it."""
        if not self._done:
            raise Nothing("there is nothing to take back")
        deed, stock = self._done.pop()
        self._to_do.append((deed, self._stock))
        self._stock = stock
        return deed

    def redo(self):
        """Does again what was taken back last, and tells it."""
        if not self._to_do:
            raise Nothing("there is nothing to do again")
        deed, stock = self._to_do.pop()
        self._done.append((deed, self._stock))
        self._stock = stock
        return deed

    def together(self, deeds):
        """Does several deeds as one; a list of what they tell."""
        return self.do(("together", deeds))

    def machines(self):
        """The names of the machines, rising."""
        return self._stock.names()

    def machine(self, name):
        """A machine of its own that stands as the one of the name does."""
        return self._stock.alone(name)

    def made_of(self, name):
        """The names of the two machines of a pair; None of a machine that is no pair."""
        self._stock.check_there(name)
        return self._stock.couples.get(name)

    def past(self):
        """The deeds that are done and not taken back."""
        return [deed for deed, _ in self._done]

    def twin(self):
        """A yard that stands alike and goes its own way."""
        other = Yard()
        other._stock = self._stock
        other._done = list(self._done)
        other._to_do = list(self._to_do)
        return other

    def __eq__(self, other):
        return isinstance(other, Yard) and self._stock.stands_like(other._stock)

    def __len__(self):
        return len(self._stock.names())

    def __repr__(self):
        return f"Yard({len(self._stock.names())} machines)"


def yard_of(stock):
    """A yard that has this stock, with nothing to take back or do again."""
    yard = Yard()
    yard._stock = stock
    return yard
