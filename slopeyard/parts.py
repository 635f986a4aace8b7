"""Fractions: pairs (num, den) with den 1 or more, told in lowest terms."""

from math import gcd


def lowest(num, den):
    """The fraction in lowest terms."""
    share = gcd(num, den)
    return (num // share, den // share)


def plus(one, other):
    """The sum of two fractions."""
    return lowest(one[0] * other[1] + other[0] * one[1], one[1] * other[1])


def minus(one, other):
    """The first fraction less the second one."""
    return lowest(one[0] * other[1] - other[0] * one[1], one[1] * other[1])


def times(one, other):
    """The product of two fractions."""
    return lowest(one[0] * other[0], one[1] * other[1])


def less(one, other):
    """Whether the first fraction is below the second one."""
    return one[0] * other[1] < other[0] * one[1]


def over_one_den(state):
    """The fractions over one den that does for all: a list of their nums, and this den."""
    den = 1
    for _, part in state:
        den = den * part // gcd(den, part)
    return [num * (den // part) for num, part in state], den
