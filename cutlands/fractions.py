"""Fractions: tuples (top, bottom) in lowest terms, the bottom from 1 on."""

from cutlands.errors import NoFraction
from cutlands.wholes import common_divisor, is_whole


def made(top, bottom):
    """The fraction of a top and a bottom, in lowest terms."""
    if bottom == 0:
        raise NoFraction("the bottom of a fraction is 0")
    divisor = common_divisor(top, bottom)
    # Dividing by a number below 0 brings the bottom above 0 and turns the top along with it.
    if bottom < 0:
        divisor = -divisor
    return (top // divisor, bottom // divisor)


def is_fraction(thing):
    """Whether anything at all is a fraction."""
    if not isinstance(thing, tuple) or len(thing) != 2:
        return False
    if not is_whole(thing[0]) or not is_whole(thing[1]):
        return False
    return thing[1] >= 1 and common_divisor(thing[0], thing[1]) == 1


def plus(one, other):
    """The sum of two fractions."""
    return made(one[0] * other[1] + other[0] * one[1], one[1] * other[1])


def minus(one, other):
    """What is left of the first fraction when the second is taken from it."""
    return made(one[0] * other[1] - other[0] * one[1], one[1] * other[1])


def times(one, other):
    """The product of two fractions."""
    return made(one[0] * other[0], one[1] * other[1])


def over(one, other):
    """The first fraction divided by the second."""
    if other[0] == 0:
        raise NoFraction("a fraction is divided by nought")
    return made(one[0] * other[1], one[1] * other[0])


def less(one, other):
    """Whether the first fraction is below the second."""
    return one[0] * other[1] < other[0] * one[1]


def floor_of(one):
    """The greatest whole number not above the fraction."""
    return one[0] // one[1]


def ceiling_of(one):
    """The least whole number not below the fraction."""
    return -(-one[0] // one[1])
