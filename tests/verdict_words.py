"""Certificates and the rule of the even places by the document's words, and M. Petkovsek's search: all slowly."""

from fractions import Fraction
from itertools import combinations

from tests.rule_words import (Line, Made, bases_by_words, choice_powers, formula_by_words, kernel, lines_by_words,
                              solves_by_words)
from tests.surds import Surd, added, cut, later, multiplied, numbers_of, with_roots
from twicestep.formulas import are_alike


def negative(polynomial):
    return multiplied([Surd(-1)], polynomial)


def stretched(polynomial, k):
    """The polynomial with k n in the place of n."""
    return cut([number * Surd(k) ** at for at, number in enumerate(polynomial)])


class Even:
    """The rule of the even places of a rule that is made of roots, with b other than 0."""

    def __init__(self, made):
        a, b, c = made.polynomials
        first = multiplied(later(a, 1), later(a, 2), b)
        middle = added(added(multiplied(later(a, 1), b, later(c, 2)), multiplied(a, later(b, 2), later(c, 1))),
                       negative(multiplied(b, later(b, 1), later(b, 2))))
        last = multiplied(later(b, 2), c, later(c, 1))
        self.polynomials = [stretched(polynomial, 2) for polynomial in (first, middle, last)]
        self.rule = tuple(numbers_of(polynomial) for polynomial in self.polynomials)
        half = Fraction(1, 2)
        self.a = sorted([(root - k) * half for root in made.a for k in (1, 2)] + [root * half for root in made.b])
        self.c = sorted([(root - k) * half for root in made.c for k in (0, 1)] + [(root - 2) * half for root in made.b])

    classes = Made.classes


# Certificates.

def rank(rows):
    """How many of the rows, lists of numbers with the same root, are independent."""
    rows, found = [list(row) for row in rows], 0
    for at in range(len(rows[0]) if rows else 0):
        heads = [row for row in rows if not row[at] == 0]
        if heads:
            rows.remove(heads[0])
            found += 1
            rows = [[x - y * row[at] / heads[0][at] for x, y in zip(row, heads[0])] for row in rows]
    return found


def equations(line, degree, places):
    """The equations of a line and a degree at some places."""
    if not hasattr(line, "images"):
        line.images = []
    while len(line.images) <= degree:
        line.images.append(line.applied([Surd(0)] * len(line.images) + [Surd(1)]))
    return [[image[j] if j < len(image) else Surd(0) for image in line.images[:degree + 1]] for j in places]


def headed(thing, word, length):
    return type(thing) is tuple and len(thing) == length and type(thing[0]) is str and thing[0] == word


class Judge:
    """What holds of the formulas of a rule that is made of roots, or of its rule of the even places."""

    def __init__(self, made):
        self.made, self.rule = made, made.rule
        self.lines = lines_by_words(made)
        self.degrees = [line.degrees() for line in self.lines]

    def formula(self, thing):
        if not headed(thing, "formula", 4) or not formula_by_words(thing[1:]):
            return False
        # No formula of the rules that are tried has more in it.
        if len(thing[3]) > 20 or any(abs(exponent) > 60 for _, exponent in thing[2]):
            return False
        return solves_by_words(self.rule, thing[1:])

    def table(self, thing):
        if not headed(thing, "table", 2) or type(thing[1]) is not tuple or len(thing[1]) != len(self.lines):
            return False
        return all(self.item(*each) for each in zip(self.lines, self.degrees, thing[1]))

    def item(self, line, degrees, item):
        if not degrees:
            return type(item) is str and item == "shut"
        if type(item) is not tuple or len(item) != degrees[-1] + 1 or any(type(j) is not int for j in item):
            return False
        if item != tuple(sorted(set(item))) or item[0] < 0:
            return False
        return rank(equations(line, degrees[-1], item)) == len(item)

    def holds(self, thing):
        return self.formula(thing) or self.table(thing)

    def gives_formulas(self):
        return any(kernel(line, degrees[-1]) for line, degrees in zip(self.lines, self.degrees) if degrees)


class VerdictJudge:
    """What holds of the verdict of a rule that is made of roots."""

    def __init__(self, made):
        self.made, self.rule = made, made.rule
        self.own = Judge(made)
        self.even = None if made.b is None else Judge(Even(made))

    def verdict(self):
        if self.own.gives_formulas():
            return "formula"
        return "laid" if self.even is None or self.even.gives_formulas() else "nothing"

    def holds(self, thing):
        if headed(thing, "formula", 2):
            return self.own.formula(thing[1])
        if headed(thing, "laid", 3):
            even = thing[2] == () if self.even is None else self.even.formula(thing[2])
            return self.own.table(thing[1]) and even
        if headed(thing, "nothing", 3):
            return self.even is not None and self.own.table(thing[1]) and self.even.table(thing[2])
        return False


# M. Petkovsek's search: each product of n - r over roots of c, and each over roots of a with 1 added. No growths.

class Choice(Line):
    def __init__(self, polynomials, over, under, base):
        self.base, self.powers = base, choice_powers(over, under)
        a, b, c = polynomials
        above, below = with_roots(over), with_roots(under)
        self.parts = (multiplied([base * base], a, later(above, 1), above),
                      multiplied([base], b, above, later(below, 1)), multiplied(c, below, later(below, 1)))


def parts_of(roots):
    return sorted({part for many in range(len(roots) + 1) for part in combinations(sorted(roots), many)})


def searched(made, most):
    """Formulas of a rule, no two alike, with polynomials up to a degree: all of them if they are not endless."""
    found = []
    for over in parts_of(made.c):
        for under in parts_of([root + 1 for root in made.a]):
            for base in bases_by_words(made.polynomials, len(over) - len(under)):
                line = Choice(made.polynomials, list(over), list(under), base)
                for polynomial in kernel(line, most):
                    formula = (base.number(), line.powers, numbers_of(polynomial))
                    if not any(are_alike(formula, other) for other in found):
                        found.append(formula)
    return found


# Rules to try.

def small_made(rng, degree=2, leads=(-2, -1, 1, 2), with_b=0.9):
    """A rule of small numbers: such more often have formulas."""
    roots = [[Fraction(rng.randint(-3, 3)) if rng.random() < 0.75 else Fraction(rng.choice([-3, -1, 1, 3, 5]), 2)
              for _ in range(rng.randint(0, degree))] for _ in range(3)]
    chosen = [rng.choice(leads) for _ in range(3)]
    return Made(roots[0], roots[1] if rng.random() < with_b else None, roots[2], chosen)


def laid_made(rng):
    """A laid rule with b other than 0: J. Meixner's with t = -1 and 2 x + l = j, moved, perhaps turned, multiplied."""
    x, j = Fraction(rng.choice([-4, -2, -1, 1, 2, 4, 7]), rng.choice([3, 5, 9])), rng.choice([-3, -2, -1, 1, 2, 3])
    k, base = rng.randint(-4, 4), rng.choice([-2, -1, 1, 2, 3, Fraction(1, 2)])
    a, c = [2 * x - 1 - j - k], [Fraction(-1 - k)]
    if rng.random() < 0.5:
        a, c = [-root - 2 for root in c], [-root - 2 for root in a]
    return Made(a, [], c, (-1, j * base, base * base))


def within(made, degree=12, lines=120):
    """Whether a rule, or a rule of the even places, is within the limits."""
    found = lines_by_words(made)
    degrees = [each for line in found for each in line.degrees()]
    return len(made.classes()) <= 4 and len(found) <= lines and all(each <= degree for each in degrees)


def both_within(made, degree=12, lines=120):
    return within(made, degree, lines) and (made.b is None or within(Even(made), degree, lines))

