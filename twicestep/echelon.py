"""Tuples of numbers, all of one length, no sum of multiples of which is zero but with all factors 0.

They are kept as a dict: at the place of the first number other than zero stands a list that begins there with 1 and
has zeros before. Each tuple kept is a sum of multiples of the lists, and the other way round.
"""

from twicestep.number_arithmetic import ZERO, difference_of, negative, product_of, quotient_of, sum_of
from twicestep.small_numbers import ONE


def taken_in(kept, numbers):
    """Keeps a tuple that is no sum of multiples of those kept, and tells whether it did so."""
    rest = list(numbers)
    for at in range(len(numbers)):
        if rest[at] != ZERO and at not in kept:
            kept[at] = [quotient_of(number, rest[at]) for number in rest]
            return True
        if rest[at] != ZERO:
            rest = less_multiple(rest, rest[at], kept[at])
    return False


def less_multiple(one, factor, other):
    """The list one less a multiple of other."""
    return [p if q == ZERO else difference_of(p, product_of(factor, q)) for p, q in zip(one, other)]


def solutions(kept, many):
    """The list of monic polynomials, of unlike degrees, that solve the tuples kept, which have many numbers each.

    The sum of the numbers of a polynomial times those of a tuple is zero. All polynomials of which this is true, of
    degrees below many, are sums of multiples of those told.
    """
    return [solution(kept, degree) for degree in range(many) if degree not in kept]


def solution(kept, degree):
    """The one that has zeros at all places below its degree at which no list begins."""
    numbers = [ZERO] * degree + [ONE]
    for at in range(degree - 1, -1, -1):
        if at in kept:
            numbers[at] = negative(sum_of_products(kept[at][at + 1:], numbers[at + 1:]))
    return tuple(numbers)


def sum_of_products(one, other):
    """The sum of the numbers of one times those of other, as far as the shorter one goes."""
    total = ZERO
    for p, q in zip(one, other):
        total = sum_of(total, product_of(p, q))
    return total
