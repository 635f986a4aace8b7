"""Lines of pages and desks: words with one blank between, and texts, each behind a ` : `.

A form tells for each first word of a line what stands behind it, the words ahead of the texts: names and numbers,
and rows, slopes and sums. What isn't so written is refused with BadText(0).
"""

from slopeyard.errors import BadText
from slopeyard.figures import number_text, read_number
from slopeyard.rows import read_any_rows

_BETWEEN = "; "
_PLUS = "+"


def read_line(line, forms):
    """The first word of the line, and the list of what stands behind it."""
    texts = line.split(" : ")
    words = texts[0].split(" ")
    if words[0] not in forms or "\n" in line:
        raise BadText(0)
    form = forms[words[0]]
    found = words[1:] + texts[1:]
    many = len([kind for kind in form if kind in _WORDS])
    if len(words) - 1 != many or len(found) != len(form):
        raise BadText(0)
    return words[0], [_read(kind, text) for kind, text in zip(form, found)]


def slopes_text(slopes):
    """The slopes as one text."""
    return _BETWEEN.join([_numbers_text(slope) for slope in slopes])


def sums_text(sums):
    """The sums of a door as one text."""
    return _BETWEEN.join([f"{_numbers_text(weights)} {_PLUS} {number_text(more)}" for weights, more in sums])


def _numbers_text(numbers):
    return " ".join([number_text(number) for number in numbers])


def _read(kind, text):
    action = _READERS[kind]
    return action(text)


def _read_name(text):
    if text == "":
        raise BadText(0)
    return text


def _read_number(text):
    number = read_number(text)
    if number is None:
        raise BadText(0)
    return number


def _read_slopes(text):
    return [tuple([_read_number(word) for word in part.split(" ")]) for part in text.split(_BETWEEN)]


def _read_sums(text):
    return [_read_sum(part) for part in text.split(_BETWEEN)]


def _read_sum(text):
    words = text.split(" ")
    if len(words) < 3 or words[-2] != _PLUS:
        raise BadText(0)
    return tuple([_read_number(word) for word in words[:-2]]), _read_number(words[-1])


def _read_rows(text):
    return read_any_rows(text)


_WORDS = ("name", "number")
_READERS = {"name": _read_name, "number": _read_number, "rows": _read_rows, "slopes": _read_slopes,
            "sums": _read_sums}
