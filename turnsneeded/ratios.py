"""Fractions, pairs (top, bottom) in lowest terms, and tuples of them over one bottom."""

from math import gcd, lcm

from turnsneeded.judging import is_int


def ratio(top, bottom):
    """The fraction of two integers, of which the bottom is not 0."""
    common = gcd(top, bottom)
    if bottom < 0:
        common = -common
    return top // common, bottom // common


def ratios(tops, bottom):
    """The tuple of the fractions with these tops over one bottom."""
    return tuple([ratio(top, bottom) for top in tops])


def is_ratio(thing):
    """Whether a thing is a fraction."""
    if not isinstance(thing, tuple) or len(thing) != 2 or not is_int(thing[0]) or not is_int(thing[1]):
        return False
    return thing[1] > 0 and gcd(thing[0], thing[1]) == 1


def are_ratios(thing, many):
    """Whether a thing is a tuple of so many fractions."""
    return isinstance(thing, tuple) and len(thing) == many and all([is_ratio(part) for part in thing])


def levelled(parts):
    """The pair (tops, bottom) of fractions, told over one bottom, the least there is."""
    bottom = 1
    for part in parts:
        bottom = lcm(bottom, part[1])
    return [top * (bottom // under) for top, under in parts], bottom


def weighed(parts, others):
    """The sum of the products of two rows, place by place."""
    return sum([part * other for part, other in zip(parts, others)])
