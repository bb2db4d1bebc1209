"""Classes and growths of the triple (a, b, c) of a rule, and the bases that go with them. Only a and c are split."""

from twicestep.fraction_pairs import ascending, is_less, pair_plus, part_behind_integer
from twicestep.number_arithmetic import ZERO
from twicestep.polynomials import roots
from twicestep.quadratics import quadratic_zeros


def class_table(triple):
    """The list, ascending by the classes, of triples: the class, c_1, c_2, .. and d_1, d_2, .. as lists."""
    a, _, c = triple
    uppers = list(roots(c))[::-1]
    lowers = [pair_plus(pair, 1) for pair in roots(a)]
    kinds = {part_behind_integer(pair): True for pair in uppers + lowers}
    return [(kind, of_class(uppers, kind), of_class(lowers, kind)) for kind in ascending(list(kinds))]


def of_class(pairs, kind):
    """The fractions that are in a class."""
    return [pair for pair in pairs if part_behind_integer(pair) == kind]


def chosen(uppers, lowers, growth):
    """The choice of a growth: c_1 to c_i and d_1 to d_j, as two lists."""
    i, j = max(growth, 0), max(-growth, 0)
    while i < len(uppers) and j < len(lowers) and not is_less(uppers[i], lowers[j]):
        i, j = i + 1, j + 1
    return uppers[:i], lowers[:j]


def choice_exponents(uppers, lowers):
    """The exponents of a choice: 1 for each of c_1 to c_i, and -1 for each of d_1 to d_j."""
    exponents = {}
    for pair in uppers:
        exponents[pair] = exponents.get(pair, 0) + 1
    for pair in lowers:
        exponents[pair] = exponents.get(pair, 0) - 1
    return exponents


def all_growths(table):
    """The list of all tuples of a growth for each class: lesser ones first, the first class counting most."""
    found = [()]
    for _, uppers, lowers in table:
        found = [growths + (growth,) for growths in found for growth in range(-len(lowers), len(uppers) + 1)]
    return found


def bases(triple, total):
    """The bases for growths with a sum, in their order."""
    # A b that is 0 has the sum total - 1 here: that is below the sum of a or below that of c.
    sums = [len(polynomial) - 1 + k * total for polynomial, k in zip(triple, (2, 1, 0))]
    most = max(sums)
    e2, e1, e0 = [polynomial[-1] if reached == most else ZERO for polynomial, reached in zip(triple, sums)]
    return tuple([base for base in quadratic_zeros(e2, e1, e0) if base != ZERO])


def all_lines(triple, table):
    """The list of the pairs (growths, base) of all lines, in their order."""
    return [(growths, base) for growths in all_growths(table) for base in bases(triple, sum(growths))]
