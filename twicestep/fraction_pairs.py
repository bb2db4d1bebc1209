"""Fraction pairs: (top, bottom) without a common divisor above 1, bottom from 1 on."""

from math import gcd, lcm

from twicestep.integers import are_whole


def is_fraction_pair(thing):
    """Whether any value is a fraction pair."""
    if not isinstance(thing, tuple) or len(thing) != 2 or not are_whole(thing):
        return False
    top, bottom = thing
    return bottom >= 1 and gcd(top, bottom) == 1


def is_less(one, other):
    """Whether one is less than other, as fractions."""
    return one[0] * other[1] < other[0] * one[1]


def ascending(pairs):
    """The list of the pairs, with repeats, ascending as fractions."""
    common = 1
    for _, bottom in pairs:
        common = lcm(common, bottom)
    return sorted(pairs, key=lambda pair: pair[0] * (common // pair[1]))


def pair_plus(pair, k):
    """The pair of the fraction with an integer added."""
    return (pair[0] + k * pair[1], pair[1])


def part_behind_integer(pair):
    """The pair from 0 to below 1 that differs from the fraction by an integer."""
    return (pair[0] % pair[1], pair[1])


def distance(at, pair):
    """The number at - r, for an integer and the fraction r that a pair stands for."""
    return (at * pair[1] - pair[0], 0, pair[1], 1)


def pair_number(pair):
    """The number that is the fraction."""
    return (pair[0], 0, pair[1], 1)
