"""The parts p2, p1, p0 of a line: F(C) is p2 C(n + 2) + p1 C(n + 1) + p0 C(n). And what F(C) = 0 asks for."""

from math import comb

from twicestep.growths import chosen
from twicestep.number_arithmetic import ZERO, is_fraction, negative, product_of, quotient_of, sum_of, whole_number
from twicestep.poly_arithmetic import poly_product, poly_shifted
from twicestep.polynomials import roots
from twicestep.small_numbers import FOUR, ONE, TWO


def line_parts(triple, table, growths, base):
    """The triple (p2, p1, p0) of a line."""
    a, b, c = triple
    above, below = (ONE,), (ONE,)
    for (_, uppers, lowers), growth in zip(table, growths):
        taken, left = chosen(uppers, lowers, growth)
        above = times_distances(above, taken)
        below = times_distances(below, left)
    later, lower = poly_shifted(above, 1), poly_shifted(below, 1)
    return (product_of_all([(product_of(base, base),), a, later, above]),
            product_of_all([(base,), b, above, lower]),
            product_of_all([c, below, lower]))


def times_distances(polynomial, pairs):
    """The polynomial times n - r for each of some fractions r."""
    for top, bottom in pairs:
        polynomial = poly_product(polynomial, ((-top, 0, bottom, 1), ONE))
    return polynomial


def product_of_all(polynomials):
    """The product of a list of polynomials."""
    total = (ONE,)
    for polynomial in polynomials:
        total = poly_product(total, polynomial)
    return total


def number_at(polynomial, k):
    """The number of a polynomial at n ** k, for any integer k."""
    return polynomial[k] if 0 <= k < len(polynomial) else ZERO


def line_degrees(parts):
    """The ascending tuple of the degrees of a line."""
    most = max([len(part) for part in parts]) - 1
    p, q, r = [[number_at(part, most - k) for k in range(3)] for part in parts]
    slope, rest = weighted(TWO, p[0], q[0]), weighted(ONE, p[1], weighted(ONE, q[1], r[1]))
    if slope != ZERO:
        return whole_degree(quotient_of(negative(rest), slope))
    if rest != ZERO:
        return ()
    # Here the base is a double one, and so a fraction: the number curve d (d - 1) + 2 bend d + 2 end is to be 0.
    curve, bend = weighted(FOUR, p[0], q[0]), weighted(TWO, p[1], q[1])
    end = weighted(ONE, p[2], weighted(ONE, q[2], r[2]))
    found = roots((product_of(TWO, end), weighted(TWO, bend, negative(curve)), curve))
    return tuple(sorted({top for top, bottom in found if bottom == 1 and top >= 0}))


def weighted(factor, one, other):
    """factor * one + other."""
    return sum_of(product_of(factor, one), other)


def whole_degree(number):
    """The degree that a number is, in a tuple: () if it is no integer from 0 on."""
    p, _, s, _ = number
    return (p,) if is_fraction(number) and s == 1 and p >= 0 else ()


def line_equation(parts, degree, j):
    """The tuple of the numbers that F(1), F(n), .., F(n ** degree) have at n ** j."""
    return tuple([power_number(parts, k, j) for k in range(degree + 1)])


def power_number(parts, k, j):
    """The number that F(n ** k) has at n ** j."""
    p2, p1, p0 = parts
    total = number_at(p0, j - k)
    # Elsewhere p2 and p1 have no numbers at n ** (j - i).
    for i in range(max(0, j + 1 - max(len(p2), len(p1))), min(k, j) + 1):
        # (n + 2) ** k and (n + 1) ** k have at n ** i the numbers many * 2 ** (k - i) and many.
        many = whole_number(comb(k, i))
        both = weighted(whole_number(1 << (k - i)), number_at(p2, j - i), number_at(p1, j - i))
        total = weighted(many, both, total)
    return total
