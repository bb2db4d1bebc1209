"""Integers: what counts as one, and the squares that divide it."""

from math import isqrt

LAST_TRIED = 10 ** 5


def is_whole(thing):
    """Whether a value is an integer: an int that is not a bool."""
    return isinstance(thing, int) and not isinstance(thing, bool)


def are_whole(things):
    """Whether all values of a tuple are integers."""
    return all(is_whole(thing) for thing in things)


def square_split(size):
    """The pair (f, m) with f * f * m = size, no square above 1 dividing m, for an integer size from 1 on.

    When all divisors below k are taken out and k * k * k is above what is left, that is 1, a prime,
    a product of two primes, or the square of a prime: only this square is still to be found. LAST_TRIED
    keeps a size far beyond all limits from running on and on; it is reached from 10 ** 15 on only.
    """
    outside, inside, rest, k = 1, 1, size, 2
    while k * k * k <= rest and k <= LAST_TRIED:
        if rest % k == 0:
            rest = rest // k
            if rest % k == 0:
                rest = rest // k
                outside = outside * k
            else:
                inside = inside * k
        else:
            k += 1 + k % 2
    root = isqrt(rest)
    if root * root == rest:
        return outside * root, inside
    return outside, inside * rest


def is_square_free(number):
    """Whether no square above 1 divides an integer other than 0."""
    outside, _ = square_split(abs(number))
    return outside == 1
