"""Arithmetic of polynomials that are known to be polynomials and to go together."""

from twicestep.number_arithmetic import ZERO, is_fraction, product_of, sum_of, whole_number


def trimmed(numbers):
    """The polynomial of a list of numbers: without the zeros at the end."""
    end = len(numbers)
    while end > 0 and numbers[end - 1] == ZERO:
        end -= 1
    return tuple(numbers[:end])


def poly_root(polynomial):
    """The d of the numbers of a polynomial that are no fractions, 1 if there are none."""
    for number in polynomial:
        if not is_fraction(number):
            return number[3]
    return 1


def is_plain(polynomial):
    """Whether all numbers of a polynomial are fractions."""
    return poly_root(polynomial) == 1


def polys_go_together(one, other):
    """Whether all numbers of two polynomials go together."""
    d, e = poly_root(one), poly_root(other)
    return d == 1 or e == 1 or d == e


def poly_sum(one, other):
    """one + other."""
    if len(one) < len(other):
        one, other = other, one
    both = [sum_of(p, q) for p, q in zip(one, other)]
    return trimmed(both + list(one[len(other):]))


def poly_product(one, other):
    """one * other."""
    if one == () or other == ():
        return ()
    numbers = [ZERO] * (len(one) + len(other) - 1)
    for i, p in enumerate(one):
        for j, q in enumerate(other):
            numbers[i + j] = sum_of(numbers[i + j], product_of(p, q))
    return tuple(numbers)


def poly_value(polynomial, number):
    """The value of a polynomial at a number."""
    value = ZERO
    for factor in reversed(polynomial):
        value = sum_of(product_of(value, number), factor)
    return value


def poly_shifted(polynomial, k):
    """The polynomial that has at n the value of the first one at n + k."""
    step = whole_number(k)
    numbers = list(polynomial)
    for start in range(len(numbers) - 1):
        for at in range(len(numbers) - 2, start - 1, -1):
            numbers[at] = sum_of(numbers[at], product_of(step, numbers[at + 1]))
    return tuple(numbers)


def poly_stretched(polynomial, k):
    """The polynomial that has at n the value of the first one at k n, for an integer k other than 0."""
    numbers, power = [], whole_number(1)
    for number in polynomial:
        numbers.append(product_of(number, power))
        power = product_of(power, whole_number(k))
    return tuple(numbers)
