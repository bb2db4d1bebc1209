"""The numbers at which polynomials of degree 2 at most are zero."""

from twicestep.integers import square_split
from twicestep.number_arithmetic import ZERO, difference_of, lowest, negative, product_of, quotient_of, sum_of
from twicestep.small_numbers import FOUR, TWO


def square_root(top, bottom):
    """The number whose square is top / bottom, in lowest terms, bottom above 0: with q above 0, or from 0 on.

    root_of says the same. But top and bottom have no common divisor, so that each can be split alone: this is quick
    for a bottom that is a square, as most are here.
    """
    if top == 0:
        return ZERO
    outside, inside = square_split(abs(top))
    below, beneath = square_split(bottom)
    d = inside * beneath
    return lowest(0, outside, below * beneath, d if top > 0 else -d)


def quadratic_zeros(e2, e1, e0):
    """The numbers z with e2 z z + e1 z + e0 = 0, for fractions that are not all zero: that with + root first."""
    if e2 == ZERO:
        return () if e1 == ZERO else (quotient_of(negative(e0), e1),)
    under = difference_of(product_of(e1, e1), product_of(FOUR, product_of(e2, e0)))
    root = square_root(under[0], under[2])
    below = product_of(TWO, e2)
    first = quotient_of(sum_of(negative(e1), root), below)
    second = quotient_of(difference_of(negative(e1), root), below)
    return (first,) if first == second else (first, second)
