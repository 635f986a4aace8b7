"""Numbers as texts, written plainly."""

_MOST_FIGURES = 20

# Python writes numbers only up to some thousand figures at once; longer ones are written in groups.
_LONG_BITS = 10000
_GROUP_FIGURES = 60


def number_text(number):
    """The number written plainly, of any length."""
    if number.bit_length() < _LONG_BITS:
        return str(number)
    groups = []
    left = abs(number)
    while left:
        left, group = divmod(left, 10 ** 60)
        groups.append(str(group).zfill(_GROUP_FIGURES))
    figures = "".join(groups[::-1]).lstrip("0")
    return "-" + figures if number < 0 else figures


def read_number(text):
    """The number that is plainly written so, of at most 20 figures, or None."""
    figures = text[1:] if text.startswith("-") else text
    if not (figures.isascii() and figures.isdigit()) or len(figures) > _MOST_FIGURES:
        return None
    if figures.startswith("0") and text != "0":
        return None
    return int(text)
