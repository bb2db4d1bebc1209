"""Formulas of a rule, and its verdict: each with a certificate that shows it."""

from twicestep.errors import NoFormula, ZeroMiddle
from twicestep.judging import is_formula_told, is_headed, is_table_told, judged, line_formulas
from twicestep.line_parts import product_of_all
from twicestep.poly_arithmetic import poly_shifted, poly_stretched, poly_sum
from twicestep.rules import check_rule
from twicestep.small_numbers import LESS

HOW_MANY = ("none", "one", "two")


def judge_formula(rule):
    """A certificate: a formula of the rule, or a table that bars all of them."""
    check_rule(rule)
    return judged(rule)


def formula_holds(rule, thing):
    """Whether any value is a certificate "formula" or "table" of the rule."""
    check_rule(rule)
    return is_formula_told(rule, thing) or is_table_told(rule, thing)


def many_formulas(rule):
    """How many formulas the rule has, alike ones counted once: "none", "one", "two" or "endless"."""
    check_rule(rule)
    found = line_formulas(rule)
    if any(len(formulas_of_line) > 1 for formulas_of_line in found):
        return "endless"
    return HOW_MANY[len(found)]


def formulas(rule):
    """The tuple of the formulas of the rule, no two alike, in the order of their lines; two if they are endless."""
    check_rule(rule)
    return tuple([formula for formulas_of_line in line_formulas(rule) for formula in formulas_of_line])


def even_rule(rule):
    """The triple (A, B, C) of the rule of the even places."""
    check_middle(rule)
    return even_triple(rule)


def check_middle(rule):
    """Raises the error of a value that is no rule, or of a rule whose b is 0."""
    check_rule(rule)
    if rule[1] == ():
        raise ZeroMiddle(rule)


def even_triple(rule):
    """The triple (A, B, C) of the rule of the even places, for a rule whose b is not 0."""
    (a0, a1, a2), (b0, b1, b2), (c0, c1, c2) = [[poly_shifted(each, k) for k in range(3)] for each in rule]
    first = product_of_all([a1, a2, b0])
    middle = poly_sum(product_of_all([a1, b0, c2]), product_of_all([a0, b2, c1]))
    middle = poly_sum(middle, product_of_all([(LESS,), b0, b1, b2]))
    last = product_of_all([b2, c0, c1])
    return (poly_stretched(first, 2), poly_stretched(middle, 2), poly_stretched(last, 2))


def even_formula(rule):
    """A formula of the rule of the even places."""
    check_middle(rule)
    told = judged(even_triple(rule))
    if told[0] == "table":
        raise NoFormula(rule)
    return told[1:]


def verdict(rule):
    """The verdict: "formula", "laid" or "nothing"."""
    return judge_verdict(rule)[0]


def judge_verdict(rule):
    """A certificate of the verdict."""
    told = judge_formula(rule)
    if told[0] == "formula":
        return ("formula", told)
    if rule[1] == ():
        return ("laid", told, ())
    even = judged(even_triple(rule))
    return ("nothing" if even[0] == "table" else "laid", told, even)


def verdict_holds(rule, thing):
    """Whether any value is a certificate of the rule's verdict."""
    check_rule(rule)
    if is_headed(thing, "formula", 2):
        return is_formula_told(rule, thing[1])
    if is_headed(thing, "laid", 3):
        return is_laid_even(rule, thing[2]) and is_table_told(rule, thing[1])
    if is_headed(thing, "nothing", 3) and rule[1] != ():
        return is_table_told(rule, thing[1]) and is_table_told(even_triple(rule), thing[2])
    return False


def is_laid_even(rule, thing):
    """Whether any value is what the verdict "laid" tells of the even places."""
    if rule[1] == ():
        return thing == ()
    return is_formula_told(even_triple(rule), thing)
