"""Lists of whole numbers that are reckoned with place by place."""

from math import gcd


def dot(one, other):
    """The sum of the products of what stands in the same place; what one has more of doesn't count."""
    return sum([left * right for left, right in zip(one, other)])


def common(numbers):
    """The greatest number that divides all of them; nought where all are nought."""
    most = 0
    for number in numbers:
        most = gcd(most, number)
        if most == 1:
            return 1
    return most


def shortened(numbers):
    """The numbers, divided by the greatest number that divides all of them."""
    most = common(numbers)
    if most < 2:
        return list(numbers)
    return [number // most for number in numbers]


def blended(one, many, other, times, part=1):
    """One so many times less the other so many times, divided by a number that divides each difference."""
    if part == 1:
        return [many * left - times * right for left, right in zip(one, other)]
    return [(many * left - times * right) // part for left, right in zip(one, other)]


def weighed(columns, weights):
    """The columns, each times its weight, added up; one column at least."""
    used = [place for place, weight in enumerate(weights) if weight]
    if not used:
        return [0] * len(columns[0])
    first = used[0]
    weight = weights[first]
    total = [weight * number for number in columns[first]]
    # Two columns at a time: each pass over a long list costs more than what it reckons.
    for place in range(1, len(used) - 1, 2):
        one, other = used[place], used[place + 1]
        left, right = weights[one], weights[other]
        total = [so_far + left * a + right * b for so_far, a, b in zip(total, columns[one], columns[other])]
    if len(used) % 2 == 0:
        last = used[-1]
        weight = weights[last]
        total = [so_far + weight * number for so_far, number in zip(total, columns[last])]
    return total


def unit(length, place):
    """So many noughts, but a one at the place."""
    numbers = [0] * length
    numbers[place] = 1
    return numbers


def picked(numbers, places):
    """What stands in these places, and what is added."""
    return (*[numbers[place] for place in places], numbers[-1])


def spread(numbers, places, width):
    """The numbers in these places, noughts in all others of so many, and what is added."""
    wide = [0] * width + [numbers[-1]]
    for place, number in zip(places, numbers):
        wide[place] = number
    return wide


def placed(pairs, length):
    """So many noughts, but in the place of each pair (place, number) its number."""
    numbers = [0] * length
    for place, number in pairs:
        numbers[place] = number
    return numbers
