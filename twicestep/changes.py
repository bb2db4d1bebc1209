"""Changes of rules and of their formulas: moved by an integer, turned, multiplied by a factor."""

from twicestep.errors import BadFactor, BadShift, NoFormula
from twicestep.formulas import is_formula_of
from twicestep.integers import is_whole
from twicestep.line_parts import product_of_all, times_distances
from twicestep.number_arithmetic import ZERO, is_fraction, negative, product_of, quotient_of
from twicestep.numbers import is_number
from twicestep.poly_arithmetic import poly_shifted, poly_stretched
from twicestep.powers import are_powers, exponents_moved, exponents_of, exponents_sum, powers_of
from twicestep.rules import check_rule
from twicestep.small_numbers import ONE


def moved(rule, k):
    """The rule with n + k in the place of n."""
    check_rule(rule)
    check_shift(k)
    a, b, c = rule
    return (poly_shifted(a, k), poly_shifted(b, k), poly_shifted(c, k))


def check_shift(k):
    """Raises BadShift with a value that is no integer."""
    if not is_whole(k):
        raise BadShift(k)


def turned(rule):
    """The rule of the rows read backwards, with - n in the place of n."""
    check_rule(rule)
    a, b, c = rule
    return (poly_turned(c), poly_turned(b), poly_turned(a))


def poly_turned(polynomial):
    """The polynomial with - n - 2 in the place of n."""
    return poly_stretched(poly_shifted(polynomial, -2), -1)


def multiplied(rule, factor):
    """The rule of the rows y h, where h has the quotient that the factor tells."""
    check_rule(rule)
    check_factor(factor)
    (a, b, c), (base, powers) = rule, factor
    above, below = powers_product(powers, 1), powers_product(powers, -1)
    later, lower = poly_shifted(above, 1), poly_shifted(below, 1)
    return (product_of_all([a, below, lower]),
            product_of_all([(base,), b, later, below]),
            product_of_all([(product_of(base, base),), c, above, later]))


def powers_product(powers, sign):
    """The product of all (n - r) ** (sign e), for the pairs (r, e) with sign e above 0."""
    total = (ONE,)
    for pair, exponent in powers:
        total = times_distances(total, [pair] * max(sign * exponent, 0))
    return total


def is_factor(thing):
    """Whether any value is a factor."""
    if not isinstance(thing, tuple) or len(thing) != 2:
        return False
    base, powers = thing
    return is_number(base) and is_fraction(base) and base != ZERO and are_powers(powers)


def check_factor(thing):
    """Raises BadFactor with a value that is no factor."""
    if not is_factor(thing):
        raise BadFactor(thing)


def check_formula_of(rule, thing):
    """Raises the error of a value that is no rule, or of one that is no formula of the rule."""
    if not is_formula_of(rule, thing):
        raise NoFormula(thing)


def moved_formula(rule, thing, k):
    """The formula of the moved rule that has at n the quotient of a formula of the rule at n + k."""
    check_formula_of(rule, thing)
    check_shift(k)
    base, powers, polynomial = thing
    return (base, powers_of(exponents_moved(exponents_of(powers), k)), poly_shifted(polynomial, k))


def turned_formula(rule, thing):
    """The formula of the turned rule that has at n the quotient 1 / q(- n - 1), q being that of a formula of the rule.

    With - n - 1 in the place of n each n - r becomes -1 times n + 1 + r, and polynomial(n + 1) / polynomial(n) is
    turned over if - n is put in the place of n.
    """
    check_formula_of(rule, thing)
    base, powers, polynomial = thing
    if sum([exponent for _, exponent in powers]) % 2 == 1:
        base = negative(base)
    exponents = {(-top - bottom, bottom): -exponent for (top, bottom), exponent in powers}
    return (quotient_of(ONE, base), powers_of(exponents), poly_stretched(polynomial, -1))


def multiplied_formula(rule, thing, factor):
    """The formula of the multiplied rule that has the quotient of a formula of the rule times that of the factor."""
    check_formula_of(rule, thing)
    check_factor(factor)
    base, powers, polynomial = thing
    exponents = exponents_sum(exponents_of(powers), exponents_of(factor[1]))
    return (product_of(base, factor[0]), powers_of(exponents), polynomial)
