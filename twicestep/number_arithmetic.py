"""Arithmetic of numbers (p, q, s, d) that are known to be numbers and to go together."""

from math import gcd

ZERO = (0, 0, 1, 1)


def lowest(p, q, s, d):
    """The number (p + q root(d)) / s, for an s other than 0 and a d that no square above 1 divides."""
    if d == 1:
        p, q = p + q, 0
    if q == 0:
        d = 1
    divisor = gcd(gcd(p, q), s)
    if s < 0:
        divisor = -divisor
    return (p // divisor, q // divisor, s // divisor, d)


def whole_number(k):
    """The number that an integer is."""
    return (k, 0, 1, 1)


def is_fraction(number):
    """Whether a number is a fraction."""
    return number[1] == 0


def go_together(one, other):
    """Whether two numbers go together."""
    return is_fraction(one) or is_fraction(other) or one[3] == other[3]


def common_root(one, other):
    """The d of two numbers that go together: that of the one with a root, otherwise 1."""
    return other[3] if is_fraction(one) else one[3]


def negative(number):
    """The number with the other sign."""
    p, q, s, d = number
    return (-p, -q, s, d)


def sum_of(one, other):
    """one + other."""
    p, q, s, _ = one
    u, v, w, _ = other
    return lowest(p * w + u * s, q * w + v * s, s * w, common_root(one, other))


def difference_of(one, other):
    """one - other."""
    return sum_of(one, negative(other))


def product_of(one, other):
    """one * other."""
    p, q, s, _ = one
    u, v, w, _ = other
    d = common_root(one, other)
    return lowest(p * u + q * v * d, p * v + q * u, s * w, d)


def quotient_of(one, other):
    """one / other, for an other that is not zero."""
    u, v, w, d = other
    # (u + v root(d)) (u - v root(d)) is an integer, and not 0, because d is no square.
    turned = lowest(w * u, -w * v, u * u - v * v * d, d)
    return product_of(one, turned)
