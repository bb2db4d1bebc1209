"""Rules: triples (a, b, c) of split polynomials, b perhaps 0, for a(n) y(n + 2) + b(n) y(n + 1) + c(n) y(n) = 0."""

from twicestep.errors import BadCount, BadPlace, BadRule
from twicestep.integers import is_whole
from twicestep.number_arithmetic import ZERO, difference_of, negative, product_of, quotient_of, sum_of, whole_number
from twicestep.numbers import are_together, check_pair
from twicestep.poly_arithmetic import poly_value
from twicestep.polynomials import is_split, roots


def is_rule(thing):
    """Whether any value is a rule."""
    if not isinstance(thing, tuple) or len(thing) != 3:
        return False
    a, b, c = thing
    return is_split(a) and (b == () or is_split(b)) and is_split(c)


def check_rule(thing):
    """Raises BadRule with a value that is no rule."""
    if not is_rule(thing):
        raise BadRule(thing)


def is_count(thing):
    """Whether any value is an integer from 0 on."""
    return is_whole(thing) and thing >= 0


def check_count(thing):
    """Raises BadCount with a value that is no integer from 0 on."""
    if not is_count(thing):
        raise BadCount(thing)


def first_place(rule):
    """The least integer from 0 on such that neither a nor c is zero at any integer from there on."""
    check_rule(rule)
    a, _, c = rule
    return place_behind(roots(a) + roots(c))


def place_behind(pairs):
    """The least integer from 0 on that is greater than all integers among fractions."""
    return max([0] + [top + 1 for top, bottom in pairs if bottom == 1])


def check_place(rule, start):
    """Raises the error of a value that is no rule, or of one that is no place of the rule."""
    least = first_place(rule)
    if not is_whole(start) or start < least:
        raise BadPlace(start)


def row(rule, start, first, second, many):
    """The first many numbers of the row that begins with two numbers at a place and keeps the rule."""
    check_place(rule, start)
    check_pair(first, second)
    check_count(many)
    numbers = [first, second]
    for n in range(start, start + many - 2):
        numbers.append(following(rule, n, numbers[-2], numbers[-1]))
    return tuple(numbers[:many])


def following(rule, n, one, other):
    """The number y(n + 2) behind y(n) and y(n + 1)."""
    a = poly_value(rule[0], whole_number(n))
    return quotient_of(negative(behind_first(rule, n, one, other)), a)


def behind_first(rule, n, one, other):
    """The number b(n) y(n + 1) + c(n) y(n), for y(n) and y(n + 1)."""
    b, c = poly_value(rule[1], whole_number(n)), poly_value(rule[2], whole_number(n))
    return sum_of(product_of(b, other), product_of(c, one))


def keeps(rule, start, thing):
    """Whether any value is a tuple of numbers that go together and keep the rule from a place on."""
    check_place(rule, start)
    if not isinstance(thing, tuple) or not are_together(thing):
        return False
    return all(keeps_at(rule, start + k, thing[k:k + 3]) for k in range(len(thing) - 2))


def keeps_at(rule, n, three):
    """Whether three numbers that stand at n, n + 1 and n + 2 keep the rule at n."""
    first = product_of(poly_value(rule[0], whole_number(n)), three[2])
    return sum_of(first, behind_first(rule, n, three[0], three[1])) == ZERO


def standing(one, other):
    """The tuple of the numbers one(n) other(n + 1) - one(n + 1) other(n)."""
    return tuple([difference_of(product_of(one[k], other[k + 1]), product_of(one[k + 1], other[k]))
                  for k in range(len(one) - 1)])
