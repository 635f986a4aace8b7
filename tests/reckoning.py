"""The tests' own reckoning: slow, plain, over Fractions, and without a line of the program."""

from fractions import Fraction


def value(fraction):
    num, den = fraction
    return Fraction(num, den)


def pair(number):
    number = Fraction(number)
    return (number.numerator, number.denominator)


def state_of(*numbers):
    return tuple(pair(number) for number in numbers)


def come_to(weights, state):
    """What the levels, each times its weight, come together to."""
    return sum((weight * value(level) for weight, level in zip(weights, state)), Fraction(0))


def keeps(rows, state):
    return all(come_to(weights, state) <= bound for weights, bound in rows)


def added(rows, weights, count):
    """The row to which the rows, each times its number, add up."""
    assert len(rows) == len(weights)
    sums = [0] * count
    total = 0
    for (row, bound), number in zip(rows, weights):
        sums = [so_far + number * weight for so_far, weight in zip(sums, row)]
        total += number * bound
    return tuple(sums), total


def bars_rightly(rows, weights, count):
    if any(number < 0 for number in weights):
        return False
    sums, bound = added(rows, weights, count)
    return not any(sums) and bound < 0


def shows_rightly(rows, row, paper, count):
    many, weights = paper
    if many < 1 or any(number < 0 for number in weights):
        return False
    sums, bound = added(rows, weights, count)
    return sums == tuple(many * weight for weight in row[0]) and bound <= many * row[1]


def left_out(rows, level):
    """The rows of what is left when the level is left out: each that bounds it above with each that does below."""
    above = [row for row in rows if row[0][level] > 0]
    below = [row for row in rows if row[0][level] < 0]
    made = [row for row in rows if row[0][level] == 0]
    for weights, bound in above:
        for others, other_bound in below:
            times, other_times = -others[level], weights[level]
            made.append(([times * one + other_times * other for one, other in zip(weights, others)],
                         times * bound + other_times * other_bound))
    tight = {}
    for weights, bound in made:
        most = max((abs(weight) for weight in weights), default=0)
        scale = Fraction(1, most) if most else Fraction(1)
        key = tuple(weight * scale for weight in weights)
        tight[key] = min(tight.get(key, bound * scale), bound * scale)
    return [(list(key), bound) for key, bound in tight.items()]


def can_be_kept(rows, count, ties=()):
    """Whether some state keeps all the rows, and comes just to the bounds of the ties.

    Each tie is used to tell one level by the others; the levels that are left are left out one by one.
    """
    rows = [([Fraction(weight) for weight in weights], Fraction(bound)) for weights, bound in rows]
    ties = [([Fraction(weight) for weight in weights], Fraction(bound)) for weights, bound in ties]
    while ties:
        weights, bound = ties.pop()
        level = next((place for place, weight in enumerate(weights) if weight), None)
        if level is None:
            if bound:
                return False
            continue
        rows = [told_by(row, (weights, bound), level) for row in rows]
        ties = [told_by(tie, (weights, bound), level) for tie in ties]
    for level in range(count):
        rows = left_out(rows, level)
    return all(bound >= 0 for _, bound in rows)


def told_by(row, tie, level):
    times = row[0][level] / tie[0][level]
    return ([one - times * other for one, other in zip(row[0], tie[0])], row[1] - times * tie[1])


def set_by(sums, state):
    return tuple(pair(come_to(weights, state) + plus) for weights, plus in sums)


def is_set(rows, sums, state, count):
    """Whether the sums set this state of some state that keeps the rows."""
    ties = [(weights, value(level) - plus) for (weights, plus), level in zip(sums, state)]
    return can_be_kept(rows, count, ties)


def units(count, places=None):
    """Sums that set the levels in these places as they are."""
    places = range(count) if places is None else places
    return [(tuple(int(place == level) for level in range(count)), 0) for place in places]


def box(count, low, high):
    rows = []
    for weights, _ in units(count):
        rows.append((weights, high))
        rows.append((tuple(-weight for weight in weights), -low))
    return rows


def random_rows(source, count, many, most=5):
    rows = []
    for _ in range(many):
        weights = tuple(source.randint(-most, most) if source.random() < 0.8 else 0 for _ in range(count))
        rows.append((weights, source.randint(-most, 3 * most)))
        if source.random() < 0.1:
            rows.append((tuple(-weight for weight in weights), -rows[-1][1]))
    return rows


def random_sums(source, count, many, most=3):
    return [(tuple(source.randint(-most, most) for _ in range(count)), source.randint(-most, most))
            for _ in range(many)]
