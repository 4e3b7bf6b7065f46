"""Fractions: pairs (top, bottom) in lowest terms, the bottom above 0."""

from math import gcd

from fullorring.checks import is_integer


def lowest(top, bottom):
    """The fraction of a top and a bottom above 0."""
    shared = gcd(top, bottom)
    return top // shared, bottom // shared


def plus(one, other):
    """The sum of two fractions."""
    return lowest(one[0] * other[1] + other[0] * one[1], one[1] * other[1])


def times(one, other):
    """The product of two fractions."""
    return lowest(one[0] * other[0], one[1] * other[1])


def over(one, other):
    """The first fraction divided by the second one, which is above 0."""
    return lowest(one[0] * other[1], one[1] * other[0])


def is_below(one, other):
    """Whether the first fraction is less than the second one."""
    return one[0] * other[1] < other[0] * one[1]


def is_fraction(thing):
    """Whether it is a fraction."""
    if not isinstance(thing, tuple) or len(thing) != 2 or not all([is_integer(one) for one in thing]):
        return False
    return thing[1] > 0 and gcd(thing[0], thing[1]) == 1
