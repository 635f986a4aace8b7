"""Papers and weights that anybody can look at: what rows, each times its number, add up to."""

from slopeyard.vectors import weighed


def added(rows, weights):
    """The row to which the rows, each times its number, add up, not brought to plain form; one row at least."""
    numbers = weighed([(*row, bound) for row, bound in rows], weights)
    return tuple(numbers[:-1]), numbers[-1]


def bars_right(rows, weights):
    """Whether the weights bar the rows."""
    if not _for_rows(rows, weights):
        return False
    total, bound = added(rows, weights)
    return not any(total) and bound < 0


def paper_right(rows, row, paper):
    """Whether the paper shows the row from the rows."""
    many, weights = paper
    if many < 1 or not _for_rows(rows, weights):
        return False
    total, bound = added(rows, weights)
    return total == tuple([many * weight for weight in row[0]]) and bound <= many * row[1]


def _for_rows(rows, weights):
    return len(weights) == len(rows) and all([weight >= 0 for weight in weights])
