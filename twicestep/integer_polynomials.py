"""Polynomials over the integers: lists of integers, the one at k belonging to n ** k."""

from math import gcd


def primitive(coefficients):
    """The same up to a factor, without a common divisor above 1, the last integer above 0."""
    divisor = 0
    for number in coefficients:
        divisor = gcd(divisor, number)
    if coefficients != [] and coefficients[-1] < 0:
        divisor = -divisor
    return [number // divisor for number in coefficients]


def value_modulo(coefficients, at, modulus):
    """The value at an integer, less a multiple of the modulus: from 0 to below it."""
    value = 0
    for number in reversed(coefficients):
        value = (value * at + number) % modulus
    return value


def slope(coefficients):
    """The derivative."""
    return [k * number for k, number in enumerate(coefficients) if k > 0]


def remainder(one, other):
    """A multiple of one, by an integer other than 0, less a multiple of other, and shorter than other."""
    rest = list(one)
    while len(rest) >= len(other):
        divisor = gcd(rest[-1], other[-1])
        keep, take = other[-1] // divisor, rest[-1] // divisor
        gap = len(rest) - len(other)
        rest = [keep * number for number in rest]
        for k, number in enumerate(other):
            rest[gap + k] -= take * number
        while rest != [] and rest[-1] == 0:
            rest.pop()
    return rest


def common_divisor(one, other):
    """The primitive greatest common divisor of two that are not both []."""
    while other != []:
        one, other = other, primitive(remainder(one, other))
    return primitive(one)


def exact_quotient(one, other):
    """The list that times other is one, where there is such a list of integers."""
    rest = list(one)
    quotient = [0] * (len(one) - len(other) + 1)
    for at in range(len(quotient) - 1, -1, -1):
        quotient[at] = rest[at + len(other) - 1] // other[-1]
        for k, number in enumerate(other):
            rest[at + k] -= quotient[at] * number
    return quotient


def without_root(coefficients, top, bottom):
    """The list that times (bottom n - top) gives the coefficients, or None if there is none of integers."""
    quotient = []
    carried = 0
    for number in reversed(coefficients):
        if (number + carried) % bottom != 0:
            return None
        quotient.append((number + carried) // bottom)
        carried = top * quotient[-1]
    if quotient.pop() != 0:
        return None
    quotient.reverse()
    return quotient
