"""Lines of a rule: each is a growth for each class and a base, and each formula of the rule comes from just one."""

from twicestep.errors import BadClass, BadGrowth, BadLine
from twicestep.fraction_pairs import is_fraction_pair
from twicestep.growths import all_lines, choice_exponents, chosen, class_table
from twicestep.integers import is_whole
from twicestep.line_parts import line_degrees, line_equation, line_parts
from twicestep.powers import powers_of
from twicestep.rules import check_count, check_rule


def classes(rule):
    """The tuple of the pairs (class, (number of c_1, .., number of d_1, ..))."""
    check_rule(rule)
    return tuple([(kind, (len(uppers), len(lowers))) for kind, uppers, lowers in class_table(rule)])


def choice(rule, kind, growth):
    """The powers of a growth of a class."""
    check_rule(rule)
    # In Python (False, True) is equal to (0, 1), but it is no fraction pair.
    found = [(uppers, lowers) for told, uppers, lowers in class_table(rule) if is_fraction_pair(kind) and told == kind]
    if found == []:
        raise BadClass(kind)
    uppers, lowers = found[0]
    if not is_whole(growth) or not -len(lowers) <= growth <= len(uppers):
        raise BadGrowth(growth)
    taken, left = chosen(uppers, lowers, growth)
    return powers_of(choice_exponents(taken, left))


def lines(rule):
    """The tuple of the triples (growths, base, degrees) of all lines, in their order."""
    check_rule(rule)
    table = class_table(rule)
    return tuple([(growths, base, line_degrees(line_parts(rule, table, growths, base)))
                  for growths, base in all_lines(rule, table)])


def equation(rule, line, degree, j):
    """The tuple of the numbers that F(1), F(n), .., F(n ** degree) of the line at a position have at n ** j."""
    check_rule(rule)
    table = class_table(rule)
    found = all_lines(rule, table)
    if not is_whole(line) or not 0 <= line < len(found):
        raise BadLine(line)
    check_count(degree)
    check_count(j)
    growths, base = found[line]
    return line_equation(line_parts(rule, table, growths, base), degree, j)
