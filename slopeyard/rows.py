"""Rows: pairs (weights, bound), kept by states, brought to plain form, written and read."""

from slopeyard.errors import BadState, BadText
from slopeyard.figures import number_text, read_number
from slopeyard.parts import over_one_den
from slopeyard.vectors import dot, shortened

_SIGN = "<="
_NONE = "all"
_BETWEEN = "; "


def plain_row(row):
    """The row with weights and bound divided by the greatest number that divides all of them."""
    weights, bound = row
    numbers = shortened([*weights, bound])
    return tuple(numbers[:-1]), numbers[-1]


def holds(row, state):
    """Whether the state keeps the row."""
    weights, bound = row
    if len(weights) != len(state):
        raise BadState("the state has another count of levels")
    nums, den = over_one_den(state)
    return dot(weights, nums) <= bound * den


def row_text(row):
    """The row as a text."""
    weights, bound = row
    return " ".join([number_text(weight) for weight in weights] + [_SIGN, number_text(bound)])


def read_row(text, *, count):
    """The row of so many weights that is written so."""
    words = text.split(" ")
    if len(words) != count + 2 or words[count] != _SIGN:
        raise BadText(0)
    numbers = [read_number(word) for word in words[:count] + words[count + 1:]]
    if None in numbers:
        raise BadText(0)
    return tuple(numbers[:count]), numbers[count]


def rows_text(rows):
    """The rows as one text."""
    if not rows:
        return _NONE
    return _BETWEEN.join([row_text(row) for row in rows])


def read_rows(text, *, count):
    """The list of rows, of so many weights each, that are written so."""
    return [read_row(part, count=count) for part in _row_texts(text)]


def read_any_rows(text):
    """The list of rows, each of whatever count of weights, one at least, that are written so."""
    return [_read_any_row(part) for part in _row_texts(text)]


def _row_texts(text):
    return [] if text == _NONE else text.split(_BETWEEN)


def _read_any_row(text):
    count = len(text.split(" ")) - 2
    if count < 1:
        raise BadText(0)
    return read_row(text, count=count)
