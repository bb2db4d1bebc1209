"""Polynomials: tuples of numbers that go together, the one at k belonging to n ** k."""

from math import gcd

from twicestep.errors import BadNumber, BadPolynomial, OtherRoot
from twicestep.number_arithmetic import ZERO, is_fraction
from twicestep.numbers import are_together, is_number
from twicestep.poly_arithmetic import (is_plain, poly_product, poly_root, poly_shifted, poly_sum, poly_value,
                                       polys_go_together)
from twicestep.rational_roots import integer_form, most_roots, scaled_roots


def is_polynomial(thing):
    """Whether any value is a polynomial."""
    if not isinstance(thing, tuple) or not are_together(thing):
        return False
    return thing == () or thing[-1] != ZERO


def is_split(thing):
    """Whether any value is a split polynomial."""
    if not has_roots(thing):
        return False
    coefficients, degree = integer_form(thing), len(thing) - 1
    return most_roots(coefficients) == degree and len(scaled_roots(coefficients)) == degree


def has_roots(thing):
    """Whether any value is a plain polynomial other than 0."""
    return is_polynomial(thing) and thing != () and is_plain(thing)


def poly_plus(one, other):
    """one + other."""
    check_pair(one, other)
    return poly_sum(one, other)


def poly_times(one, other):
    """one * other."""
    check_pair(one, other)
    return poly_product(one, other)


def check_pair(one, other):
    """Raises the error of two values that are not two polynomials which go together."""
    check_polynomial(one)
    check_polynomial(other)
    if not polys_go_together(one, other):
        raise OtherRoot(other)


def check_polynomial(thing):
    """Raises BadPolynomial with a value that is no polynomial."""
    if not is_polynomial(thing):
        raise BadPolynomial(thing)


def poly_at(polynomial, number):
    """The value of a polynomial at a number."""
    check_polynomial(polynomial)
    if not is_number(number):
        raise BadNumber(number)
    if not is_fraction(number) and poly_root(polynomial) not in (1, number[3]):
        raise OtherRoot(number)
    return poly_value(polynomial, number)


def poly_moved(polynomial, k):
    """The polynomial that has at n the value of the first one at n + k."""
    check_polynomial(polynomial)
    return poly_shifted(polynomial, k)


def roots(polynomial):
    """The tuple of the roots with repeats, as fraction pairs that ascend as fractions."""
    if not has_roots(polynomial):
        raise BadPolynomial(polynomial)
    coefficients = integer_form(polynomial)
    last = coefficients[-1]
    return tuple([fraction_pair(scaled, last) for scaled in scaled_roots(coefficients)])


def fraction_pair(top, bottom):
    """The fraction pair of top / bottom, bottom being above 0."""
    divisor = gcd(top, bottom)
    return (top // divisor, bottom // divisor)
