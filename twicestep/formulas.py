"""Formulas: triples (base, powers, polynomial) that tell the quotient of neighbouring numbers of a row."""

from twicestep.errors import BadFormula, BadPlace
from twicestep.fraction_pairs import pair_number
from twicestep.number_arithmetic import ZERO, lowest, product_of, quotient_of, whole_number
from twicestep.numbers import are_together
from twicestep.poly_arithmetic import poly_product, poly_value, polys_go_together, trimmed
from twicestep.polynomials import roots
from twicestep.powers import are_powers, exponents_moved, exponents_of, exponents_sum
from twicestep.product_sums import powers_value, vanishes
from twicestep.rules import check_count, check_rule, is_count, place_behind
from twicestep.small_numbers import LESS, ONE


def is_formula(thing):
    """Whether any value is a formula."""
    if not isinstance(thing, tuple) or len(thing) != 3:
        return False
    base, powers, polynomial = thing
    if not isinstance(polynomial, tuple) or not are_together((base,) + polynomial):
        return False
    return base != ZERO and polynomial != () and polynomial[-1] != ZERO and are_powers(powers)


def check_formula(thing):
    """Raises BadFormula with a value that is no formula."""
    if not is_formula(thing):
        raise BadFormula(thing)


def are_alike(formula, other):
    """Whether the quotients of two formulas are the same quotient of polynomials."""
    check_formula(formula)
    check_formula(other)
    # Far out a quotient comes near to the base times a power of n, so that unlike bases make unlike quotients.
    if formula[0] != other[0]:
        return False
    one, two = monic(formula[2]), monic(other[2])
    # What can be written with either of two roots has fractions alone; and if C(n + 1) / C(n) has, a monic C has, too.
    if not polys_go_together(one, two):
        return False
    return vanishes([(ONE, exponents_of(formula[1]), [(one, 1), (two, 0)]),
                     (LESS, exponents_of(other[1]), [(two, 1), (one, 0)])])


def monic(polynomial):
    """The polynomial divided by its last number."""
    return poly_product((quotient_of(ONE, polynomial[-1]),), polynomial)


def is_formula_of(rule, thing):
    """Whether any value is a formula of the rule."""
    check_rule(rule)
    return is_formula(thing) and solves(rule, thing)


def solves(triple, formula):
    """Whether a q(n + 1) q(n) + b q(n) + c is zero, for polynomials a, b, c and a formula's quotient q.

    It is asked of polynomial(n) times this sum.
    """
    a, b, c = triple
    base, powers, polynomial = formula
    here = exponents_of(powers)
    twice = exponents_sum(here, exponents_moved(here, 1))
    products = [(product_of(base, base), twice, [(a, 0), (polynomial, 2)]), (ONE, {}, [(c, 0), (polynomial, 0)])]
    if b != ():
        products.append((base, here, [(b, 0), (polynomial, 1)]))
    return vanishes(products)


def formula_row(formula, start, many):
    """The first many numbers of the formula's row from start on."""
    check_formula(formula)
    if not is_count(start) or start < formula_place(formula):
        raise BadPlace(start)
    check_count(many)
    base, powers, polynomial = formula
    exponents = exponents_of(powers)
    factor = quotient_of(ONE, poly_value(polynomial, whole_number(start)))
    numbers = []
    for at in range(start, start + many):
        if at > start:
            factor = product_of(factor, product_of(base, powers_value(exponents, at - 1)))
        numbers.append(product_of(factor, poly_value(polynomial, whole_number(at))))
    return tuple(numbers)


def formula_place(formula):
    """The least integer from 0 on behind all integers at which an r stands or the polynomial is zero."""
    _, powers, polynomial = formula
    return place_behind([pair for pair, _ in powers] + zeros(polynomial))


def zeros(polynomial):
    """The list of the fraction pairs at which a polynomial other than 0 is zero."""
    plain = trimmed([lowest(p, 0, s, 1) for p, _, s, _ in polynomial])
    beside = trimmed([lowest(q, 0, s, 1) for _, q, s, _ in polynomial])
    # At a fraction plain + beside root(d) is zero only if both are.
    tried = roots(beside if plain == () else plain)
    return [pair for pair in tried if poly_value(polynomial, pair_number(pair)) == ZERO]
