"""Numbers (p, q, s, d), each standing for (p + q root(d)) / s."""

from math import gcd

from twicestep.errors import BadNumber, OtherRoot
from twicestep.integers import are_whole, is_square_free, square_split
from twicestep.number_arithmetic import ZERO, difference_of, go_together, lowest, product_of, quotient_of, sum_of

LARGEST_ROOT = 10 ** 12


def is_number(thing):
    """Whether any value is a number."""
    return are_together((thing,))


def are_together(things):
    """Whether all values of a tuple are numbers any two of which go together."""
    shared = 1
    for thing in things:
        if not has_form(thing):
            return False
        if thing[1] != 0:
            if shared != 1 and shared != thing[3]:
                return False
            shared = thing[3]
    # The costly question is asked once for all of them.
    return is_square_free(shared)


def has_form(thing):
    """Whether a value is a number, but for squares that divide its d."""
    if not isinstance(thing, tuple) or len(thing) != 4 or not are_whole(thing):
        return False
    p, q, s, d = thing
    if s < 1 or gcd(gcd(p, q), s) != 1:
        return False
    if q == 0:
        return d == 1
    return d != 0 and d != 1 and abs(d) <= LARGEST_ROOT


def number_of(p, q, s, d):
    """The number (p + q root(d)) / s."""
    thing = (p, q, s, d)
    if not are_whole(thing) or s == 0 or d == 0:
        raise BadNumber(thing)
    if q == 0:
        return lowest(p, 0, s, 1)
    outside, inside = square_split(abs(d))
    if d < 0:
        inside = -inside
    return lowest(p, q * outside, s, inside)


def plus(one, other):
    """one + other."""
    check_pair(one, other)
    return sum_of(one, other)


def minus(one, other):
    """one - other."""
    check_pair(one, other)
    return difference_of(one, other)


def times(one, other):
    """one * other."""
    check_pair(one, other)
    return product_of(one, other)


def over(one, other):
    """one / other."""
    check_pair(one, other)
    if other == ZERO:
        raise BadNumber(other)
    return quotient_of(one, other)


def check_pair(one, other):
    """Raises the error of two values that are not two numbers which go together."""
    check_number(one)
    check_number(other)
    if not go_together(one, other):
        raise OtherRoot(other)


def check_number(thing):
    """Raises BadNumber with a value that is no number."""
    if not is_number(thing):
        raise BadNumber(thing)


def root_of(top, bottom):
    """The number whose square is top / bottom: with q above 0, or a fraction from 0 on."""
    pair = (top, bottom)
    if not are_whole(pair) or bottom == 0:
        raise BadNumber(pair)
    if top == 0:
        return ZERO
    # top / bottom is top * bottom over the square of bottom; lowest terms keep the product small.
    divisor = gcd(top, bottom)
    top, bottom = top // divisor, bottom // divisor
    return number_of(0, 1, abs(bottom), top * bottom)
