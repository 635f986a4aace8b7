"""What a yard has at one time: machines by names, and pairs of them."""

from slopeyard.bounds import check_word
from slopeyard.errors import Derived, Full, NoMachine, Taken
from slopeyard.pairs import pair

_MOST_MACHINES = 8


class Stock:
    """Machines by names, and by names of pairs the two names of which they are made.

    No machine that stands in it is ever changed: a deed puts a changed twin in its place, so that stocks may
    have machines in common.
    """

    def __init__(self):
        self.singles = {}
        self.couples = {}

    def copied(self):
        """A stock that stands alike and goes its own way."""
        other = Stock()
        other.singles = dict(self.singles)
        other.couples = dict(self.couples)
        return other

    def stands_like(self, other):
        """Whether both have equal machines by the same names, and pairs of the same names."""
        return self.singles == other.singles and self.couples == other.couples

    def names(self):
        """The names of all machines, rising."""
        return sorted([*self.singles, *self.couples])

    def alone(self, name):
        """A machine of its own that stands as the one of the name does."""
        self.check_there(name)
        if name in self.singles:
            return self.singles[name].twin()
        one, other = self.couples[name]
        return pair(self.singles[one], self.singles[other])

    def check_there(self, name):
        """Refuses a name that no machine has."""
        if name not in self.singles and name not in self.couples:
            raise NoMachine("there is no such machine")

    def check_free(self, name):
        """Refuses a name that no machine can have, or one has."""
        check_word(name)
        if name in self.singles or name in self.couples:
            raise Taken("there is a machine of this name")

    def check_not_full(self):
        """Refuses one machine more than there may be."""
        if len(self.singles) + len(self.couples) >= _MOST_MACHINES:
            raise Full("a yard has at most 8 machines")

    def single(self, name):
        """A twin of a machine that is no pair, for a deed to change."""
        self.check_there(name)
        if name in self.couples:
            raise Derived("it is a pair")
        return self.singles[name].twin()

    def put(self, name, machine):
        """Puts the machine in place of the one of the name; refuses one of which a pair could no more be made."""
        self.singles[name] = machine
        for couple in sorted(self.couples):
            one, other = self.couples[couple]
            if name in (one, other):
                pair(self.singles[one], self.singles[other])
