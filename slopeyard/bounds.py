"""Which names, rows, slopes and sums a machine can have.

What fits is told as a copy of tuples alone, so that a machine and its twins may keep the very same one.
"""

from slopeyard.errors import BadName, BadRow, BadSlope, BadSums

_MOST_LETTERS = 8
_MOST_PARTS = 4
_MOST_ROWS = 8
MOST_SLOPES = 4
_ROW_WEIGHT = 99
_ROW_BOUND = 9999
_SLOPE_NUMBER = 9999
_SUM_WEIGHT = 9
_SUM_PLUS = 999


def check_name(name):
    """Refuses what can't be the name of a room."""
    parts = name.split("-")
    if len(parts) > _MOST_PARTS or not all([_is_word(part) for part in parts]):
        raise BadName("a room's name is 1 to 4 parts of 1 to 8 letters a to z")


def check_word(word):
    """Refuses what can't be the word of a door."""
    if not _is_word(word):
        raise BadName("a word is 1 to 8 letters a to z")


def fit_rows(rows, count):
    """The rows for so many levels."""
    if len(rows) > _MOST_ROWS:
        raise BadRow("there are more than 8 rows")
    for weights, bound in rows:
        if len(weights) != count:
            raise BadRow("a row has another count of weights")
        if not _within(weights, _ROW_WEIGHT) or abs(bound) > _ROW_BOUND:
            raise BadRow("a row has numbers out of bounds")
    return _pairs(rows)


def fit_slopes(slopes, count):
    """The slopes for so many levels."""
    if not 1 <= len(slopes) <= MOST_SLOPES:
        raise BadSlope("there are not 1 to 4 slopes")
    for slope in slopes:
        if len(slope) != count:
            raise BadSlope("a slope has another count of numbers")
        if not _within(slope, _SLOPE_NUMBER):
            raise BadSlope("a slope has numbers out of bounds")
    return tuple([tuple(slope) for slope in slopes])


def fit_sums(sums, count):
    """The sums that set so many levels by as many."""
    if len(sums) != count:
        raise BadSums("there are not as many sums as levels")
    for weights, more in sums:
        if len(weights) != count:
            raise BadSums("a sum has another count of weights")
        if not _within(weights, _SUM_WEIGHT) or abs(more) > _SUM_PLUS:
            raise BadSums("a sum has numbers out of bounds")
    return _pairs(sums)


def _is_word(text):
    return len(text) <= _MOST_LETTERS and text.isascii() and text.isalpha() and text.islower()


def _within(numbers, most):
    return all([abs(number) <= most for number in numbers])


def _pairs(pairs):
    return tuple([(tuple(weights), number) for weights, number in pairs])
