"""Named rules, and their verdicts by conditions on the parameters alone.

A parameter is a fraction pair with a bottom of at most 12 and a top of at most 40 in size.
"""

from twicestep.errors import BadParameter
from twicestep.fraction_pairs import is_fraction_pair, pair_number
from twicestep.number_arithmetic import difference_of, negative, product_of, sum_of, whole_number
from twicestep.poly_arithmetic import trimmed
from twicestep.small_numbers import LESS, ONE, TWO

LARGEST_BOTTOM = 12
LARGEST_TOP = 40


def is_parameter(thing):
    """Whether any value is a parameter."""
    return is_fraction_pair(thing) and thing[1] <= LARGEST_BOTTOM and abs(thing[0]) <= LARGEST_TOP


def check_parameters(*parameters):
    """Raises BadParameter with the first value that is no parameter."""
    for thing in parameters:
        if not is_parameter(thing):
            raise BadParameter(thing)


def check_divisor(t):
    """Raises BadParameter with a value that is no parameter, or zero."""
    check_parameters(t)
    if t == (0, 1):
        raise BadParameter(t)


def rule_of(a, b, c):
    """The rule of three lists of numbers."""
    return (trimmed(a), trimmed(b), trimmed(c))


def steady(x, t):
    """The rule y(n + 2) = x y(n + 1) + t y(n)."""
    check_parameters(x)
    check_divisor(t)
    return rule_of([ONE], [negative(pair_number(x))], [negative(pair_number(t))])


def steady_verdict(x, t):
    """The verdict of a steady rule."""
    check_parameters(x)
    check_divisor(t)
    return "formula"


def hermite(x, t):
    """The rule y(n + 2) = x y(n + 1) + (n + t) y(n)."""
    check_parameters(x, t)
    return rule_of([ONE], [negative(pair_number(x))], [negative(pair_number(t)), LESS])


def hermite_verdict(x, t):
    """The verdict of a rule of C. Hermite's."""
    check_parameters(x, t)
    return "laid" if x == (0, 1) else "nothing"


def bessel(x, l, t):
    """The rule y(n + 2) = x (n + l) y(n + 1) + t y(n)."""
    check_parameters(x, l)
    check_divisor(t)
    slope = negative(pair_number(x))
    return rule_of([ONE], [product_of(slope, pair_number(l)), slope], [negative(pair_number(t))])


def bessel_verdict(x, l, t):
    """The verdict of a rule of F. Bessel's."""
    check_parameters(x, l)
    check_divisor(t)
    return "formula" if x == (0, 1) else "nothing"


def gegenbauer(x, l):
    """The rule (n + 2) y(n + 2) = 2 x (n + 1 + l) y(n + 1) - (n + 2 l) y(n)."""
    check_parameters(x, l)
    slope, step = product_of(whole_number(-2), pair_number(x)), pair_number(l)
    return rule_of([TWO, ONE], [product_of(slope, sum_of(ONE, step)), slope], [product_of(TWO, step), ONE])


def gegenbauer_verdict(x, l):
    """The verdict of a rule of L. Gegenbauer's."""
    check_parameters(x, l)
    if l[1] == 1 or x == (1, 1) or x == (-1, 1):
        return "formula"
    return "laid" if x == (0, 1) else "nothing"


def laguerre(x, l):
    """The rule (n + 2) y(n + 2) = (2 n + 3 + l - x) y(n + 1) - (n + 1 + l) y(n)."""
    check_parameters(x, l)
    step = sum_of(ONE, pair_number(l))
    middle = difference_of(pair_number(x), sum_of(TWO, step))
    return rule_of([TWO, ONE], [middle, negative(TWO)], [step, ONE])


def laguerre_verdict(x, l):
    """The verdict of a rule of E. Laguerre's."""
    check_parameters(x, l)
    return "formula" if x == (0, 1) else "nothing"


def charlier(x, t):
    """The rule t y(n + 2) = (n + 1 + t - x) y(n + 1) - (n + 1) y(n)."""
    check_parameters(x)
    check_divisor(t)
    first = pair_number(t)
    return rule_of([first], [difference_of(pair_number(x), sum_of(ONE, first)), LESS], [ONE, ONE])


def charlier_verdict(x, t):
    """The verdict of a rule of C. Charlier's."""
    check_parameters(x)
    check_divisor(t)
    return "formula" if x[1] == 1 else "nothing"


def meixner(x, l, t):
    """The rule t (n + 1 + l) y(n + 2) = ((t - 1) x + n + 1 + t (n + 1 + l)) y(n + 1) - (n + 1) y(n)."""
    check_parameters(x, l)
    check_divisor(t)
    first = pair_number(t)
    second = product_of(first, sum_of(ONE, pair_number(l)))
    middle = sum_of(product_of(difference_of(first, ONE), pair_number(x)), sum_of(ONE, second))
    return rule_of([second, first], [negative(middle), negative(sum_of(ONE, first))], [ONE, ONE])


def meixner_verdict(x, l, t):
    """The verdict of a rule of J. Meixner's."""
    check_parameters(x, l)
    check_divisor(t)
    if t == (1, 1) or x[1] == 1 or is_whole_sum(1, x, l):
        return "formula"
    return "laid" if t == (-1, 1) and is_whole_sum(2, x, l) else "nothing"


def is_whole_sum(k, x, l):
    """Whether k x + l is an integer, for an integer k and two fraction pairs."""
    return (k * x[0] * l[1] + l[0] * x[1]) % (x[1] * l[1]) == 0
