"""The errors of the program: what is refused (SlopeError), and what is asked for and isn't there (Absent)."""


class SlopeError(ValueError):
    """Something that is handed in is refused."""


class BadCount(SlopeError):
    """A count that isn't allowed here."""


class BadRow(SlopeError):
    """A row of another count of weights, or out of bounds."""


class BadState(SlopeError):
    """A state of another count of levels, or one that isn't allowed here."""


class BadSums(SlopeError):
    """Sums of other counts, or out of bounds."""


class BadSlope(SlopeError):
    """A slope of another count of numbers, or out of bounds, or too many or too few of them."""


class BadTimes(SlopeError):
    """A time below nought."""


class BadName(SlopeError):
    """A name that isn't written as names are."""


class Taken(SlopeError):
    """A name that something else has."""


class Full(SlopeError):
    """No more of these have room."""


class InUse(SlopeError):
    """Something that others still need."""


class Derived(SlopeError):
    """A machine that is made of others."""


class Whirling(SlopeError):
    """A walker would go round without end at one moment."""


class Stuck(SlopeError):
    """A walker can neither stay nor go."""


class Wandering(SlopeError):
    """A walker would take too many doors."""


class Broken(SlopeError):
    """A run that is none; `at` tells where."""

    def __init__(self, at):
        super().__init__("the run is broken")
        self.at = at


class BadText(SlopeError):
    """A text that isn't so written; `row` is the number of its first wrong line."""

    def __init__(self, row):
        super().__init__("the text is not so written")
        self.row = row


class Absent(LookupError):
    """Something that is asked for isn't there."""


class NoLevel(Absent):
    """There is no such level."""


class NoRoom(Absent):
    """There is no such room."""


class NoDoor(Absent):
    """There is no such door."""


class NoBeginning(Absent):
    """There is no such beginning."""


class NoMachine(Absent):
    """There is no such machine."""


class Nothing(Absent):
    """There is nothing of the kind."""
