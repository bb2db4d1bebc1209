"""What the lines of the triple (a, b, c) of a rule give: formulas, or tables in which all of them are barred.

Only a and c need be split: so it is said of a rule, and of the rule of the even places too.
"""

from twicestep.echelon import solutions, taken_in
from twicestep.formulas import is_formula, solves
from twicestep.growths import all_lines, choice_exponents, chosen, class_table
from twicestep.line_parts import line_degrees, line_equation, line_parts
from twicestep.powers import powers_of
from twicestep.rules import is_count


def judged(triple):
    """A certificate: the formula of the first line that gives one, or a table."""
    table, items = class_table(triple), []
    for growths, base in all_lines(triple, table):
        item, polynomials = line_judged(line_parts(triple, table, growths, base))
        if polynomials != []:
            return ("formula", base, line_powers(table, growths), polynomials[0])
        items.append(item)
    return ("table", tuple(items))


def line_judged(parts):
    """What bars a line, or None, and the list of the monic polynomials, of unlike degrees, of its formulas."""
    degrees = line_degrees(parts)
    if degrees == ():
        return "shut", []
    most, kept, places = degrees[-1], {}, []
    # Downwards the equations begin with fewer and fewer zeros, so that there is little to take off from most of them.
    for j in range(max([len(part) for part in parts]) - 1 + most, -1, -1):
        if taken_in(kept, line_equation(parts, most, j)):
            places.append(j)
        if len(places) > most:
            return tuple(places[::-1]), []
    return None, solutions(kept, most + 1)


def line_powers(table, growths):
    """The powers of a line: those of all classes."""
    above, below = [], []
    for (_, uppers, lowers), growth in zip(table, growths):
        taken, left = chosen(uppers, lowers, growth)
        above, below = above + taken, below + left
    return powers_of(choice_exponents(above, below))


def line_formulas(triple):
    """The list, in the order of the lines, of the lists of the formulas of those lines that give some.

    The polynomials are monic. A list has two formulas if its line gives endlessly many, otherwise one.
    """
    table, found = class_table(triple), []
    for growths, base in all_lines(triple, table):
        _, polynomials = line_judged(line_parts(triple, table, growths, base))
        if polynomials != []:
            powers = line_powers(table, growths)
            found.append([(base, powers, polynomial) for polynomial in polynomials])
    return found


def is_headed(thing, word, many):
    """Whether any value is a tuple of a length whose first item is a word."""
    return isinstance(thing, tuple) and len(thing) == many and thing[0] == word


def is_formula_told(triple, thing):
    """Whether any value is a certificate "formula"."""
    return is_headed(thing, "formula", 4) and is_formula(thing[1:]) and solves(triple, thing[1:])


def is_table_told(triple, thing):
    """Whether any value is a certificate "table"."""
    if not is_headed(thing, "table", 2) or not isinstance(thing[1], tuple):
        return False
    table, items = class_table(triple), thing[1]
    found = all_lines(triple, table)
    if len(items) != len(found):
        return False
    for (growths, base), item in zip(found, items):
        if not is_barred(line_parts(triple, table, growths, base), item):
            return False
    return True


def is_barred(parts, item):
    """Whether any value is what bars a line."""
    degrees = line_degrees(parts)
    if degrees == ():
        return item == "shut"
    if not is_places(item, degrees[-1] + 1):
        return False
    kept = {}
    for j in item:
        if not taken_in(kept, line_equation(parts, degrees[-1], j)):
            return False
    return True


def is_places(thing, many):
    """Whether any value is an ascending tuple of integers from 0 on, of a length."""
    if not isinstance(thing, tuple) or len(thing) != many or not all(is_count(j) for j in thing):
        return False
    return all(one < other for one, other in zip(thing, thing[1:]))
