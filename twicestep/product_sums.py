"""Sums of products with powers of n less fractions: whether they are zero.

A product is a triple (number, exponents, polynomials): the number, which is not zero, times all (n - r) ** e of the
exponents (twicestep.powers), times polynomial(n + k) for all pairs (polynomial, k), no polynomial being 0. Exponents
may have forty digits. So nothing is multiplied out.
"""

from twicestep.fraction_pairs import distance
from twicestep.number_arithmetic import ZERO, product_of, quotient_of, sum_of, whole_number
from twicestep.poly_arithmetic import poly_value
from twicestep.small_numbers import ONE


def vanishes(products):
    """Whether the sum of two or three products, all numbers of which go together, is zero at every n.

    Powers that all products have are taken out; so that the sum is one of polynomials, and what they still have in
    common divides the product of the polynomials told. If their sum is zero, then by the theorem of W. Stothers and
    R. Mason the degree of none is above the number of the places at which any of them is zero, both counted without
    what they have in common. And a polynomial that is zero at more integers than its degree tells is zero.
    """
    cleared = without_common_powers(products)
    most = max([degree_of(product) for product in cleared])
    told = sum([degree_told(polynomials) for _, _, polynomials in cleared])
    places = told + sum([len(exponents) for _, exponents, _ in cleared])
    if most > places + told:
        return False
    return all(sum_at(cleared, at) == ZERO for at in range(most + 1))


def without_common_powers(products):
    """The products divided by the same powers: no exponents below 0, and no fraction left in all of them."""
    least = {}
    for _, exponents, _ in products:
        for pair in exponents:
            least[pair] = min([others.get(pair, 0) for _, others, _ in products])
    return [(number, reduced(exponents, least), polynomials) for number, exponents, polynomials in products]


def reduced(exponents, least):
    """The exponents less the least ones, without those that are 0."""
    left = {pair: exponents.get(pair, 0) - least[pair] for pair in least}
    return {pair: left[pair] for pair in left if left[pair] != 0}


def degree_of(product):
    """The degree of a product without exponents below 0."""
    _, exponents, polynomials = product
    return sum(exponents.values()) + degree_told(polynomials)


def degree_told(polynomials):
    """The degree of the product of the polynomials that a product tells."""
    return sum([len(polynomial) - 1 for polynomial, _ in polynomials])


def sum_at(products, at):
    """The value of the sum of products at an integer."""
    total = ZERO
    for number, exponents, polynomials in products:
        value = product_of(number, powers_value(exponents, at))
        for polynomial, k in polynomials:
            value = product_of(value, poly_value(polynomial, whole_number(at + k)))
        total = sum_of(total, value)
    return total


def powers_value(exponents, at):
    """The product of all (at - r) ** e, at being no r with an exponent below 0."""
    value = ONE
    for pair, exponent in exponents.items():
        value = product_of(value, number_power(distance(at, pair), exponent))
    return value


def number_power(number, exponent):
    """The power of a number, which is not zero if the exponent is below 0."""
    if exponent < 0:
        return number_power(quotient_of(ONE, number), -exponent)
    power, rest = ONE, exponent
    while rest > 0:
        if rest % 2 == 1:
            power = product_of(power, number)
        rest = rest // 2
        if rest > 0:
            number = product_of(number, number)
    return power
