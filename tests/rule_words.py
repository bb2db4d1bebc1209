"""Rules, formulas and lines by the document's words, without regard to speed."""

from fractions import Fraction
from math import floor, gcd

from tests.support import number_by_words, polynomial_by_words, together_by_words, whole_ones
from tests.surds import Surd, added, cut, later, multiplied, numbers_of, surd, surds, value, with_roots


class Made:
    """A rule that is made of roots, so that nothing has to look for them."""

    def __init__(self, a, b, c, leads=(1, 1, 1)):
        self.a = sorted(Fraction(root) for root in a)
        self.b = None if b is None else [Fraction(root) for root in b]
        self.c = sorted(Fraction(root) for root in c)
        self.leads = leads
        self.polynomials = [with_roots(self.a, leads[0]), [] if b is None else with_roots(b, leads[1]),
                            with_roots(self.c, leads[2])]
        self.rule = tuple(numbers_of(polynomial) for polynomial in self.polynomials)

    def first_place(self):
        return max([0] + [int(root) + 1 for root in self.a + self.c if root.denominator == 1])

    def classes(self):
        """A list of triples: the class, c_1, c_2, .. and d_1, d_2, .."""
        interest = self.c + [root + 1 for root in self.a]
        found = []
        for kind in sorted(set(root - floor(root) for root in interest)):
            cs = [root for root in self.c if (root - kind).denominator == 1]
            ds = [root + 1 for root in self.a if (root - kind).denominator == 1]
            found.append((kind, sorted(cs, reverse=True), sorted(ds)))
        return found


def some_root(rng, kinds=(1, 2, 3), size=6):
    bottom = rng.choice(kinds)
    return Fraction(rng.randint(-size, size) * rng.choice([1, bottom]), bottom)


def some_made(rng, degree=3, kinds=(1, 1, 2, 3)):
    """A rule of any kind; now and then b is 0."""
    a, b, c = [[some_root(rng, kinds) for _ in range(rng.randint(0, degree))] for _ in range(3)]
    leads = [Fraction(rng.choice([-1, 1]) * rng.randint(1, 6), rng.choice([1, 1, 2, 5])) for _ in range(3)]
    return Made(a, None if rng.random() < 0.15 else b, c, leads)


def pair(fraction):
    return (Fraction(fraction).numerator, Fraction(fraction).denominator)


def powers_of(exponents):
    return tuple((pair(root), exponents[root]) for root in sorted(exponents) if exponents[root])


# Part 3.

def row_by_words(triple, start, first, second, many):
    a, b, c = [surds(polynomial) for polynomial in triple]
    found = [surd(first), surd(second)]
    for n in range(start, start + many - 2):
        found.append(-(value(b, n) * found[-1] + value(c, n) * found[-2]) / value(a, n))
    return tuple(each.number() for each in found[:many])


def together(things):
    return all(together_by_words(one, other) for one in things for other in things)


def keeps_by_words(triple, start, thing):
    if type(thing) is not tuple or not all(number_by_words(each) for each in thing) or not together(thing):
        return False
    a, b, c = [surds(polynomial) for polynomial in triple]
    y = surds(thing)
    return all(value(a, start + k) * y[k + 2] + value(b, start + k) * y[k + 1] + value(c, start + k) * y[k] == 0
               for k in range(len(y) - 2))


# Part 4.

def fraction_pair_by_words(thing):
    return (type(thing) is tuple and len(thing) == 2 and whole_ones(thing) and thing[1] >= 1
            and gcd(thing[0], thing[1]) == 1)


def powers_by_words(thing):
    if type(thing) is not tuple:
        return False
    for each in thing:
        if type(each) is not tuple or len(each) != 2 or not fraction_pair_by_words(each[0]):
            return False
        if type(each[1]) is not int or each[1] == 0:
            return False
    roots = [Fraction(*each[0]) for each in thing]
    return roots == sorted(roots) and len(set(roots)) == len(roots)


def formula_by_words(thing):
    if type(thing) is not tuple or len(thing) != 3:
        return False
    base, powers, polynomial = thing
    if not number_by_words(base) or base == (0, 0, 1, 1):
        return False
    if not polynomial_by_words(polynomial) or polynomial == () or not together((base,) + polynomial):
        return False
    return powers_by_words(powers)


def quotient(formula):
    """Top and bottom of a formula's quotient, multiplied out."""
    base, powers, polynomial = formula
    over = [Fraction(*root) for root, exponent in powers for _ in range(exponent)]
    under = [Fraction(*root) for root, exponent in powers for _ in range(-exponent)]
    told = surds(polynomial)
    return multiplied([surd(base)], with_roots(over), later(told, 1)), multiplied(with_roots(under), told)


def alike_by_words(one, other):
    """Here any two numbers of both go together."""
    (top, bottom), (above, below) = quotient(one), quotient(other)
    return multiplied(top, below) == multiplied(above, bottom)


def solves_by_words(triple, formula):
    a, b, c = [surds(polynomial) for polynomial in triple]
    top, bottom = quotient(formula)
    first = multiplied(a, later(top, 1), top)
    second = multiplied(b, top, later(bottom, 1))
    third = multiplied(c, bottom, later(bottom, 1))
    return added(first, added(second, third)) == []


def formula_row_by_words(formula, start, many):
    base, powers, polynomial = formula
    told = surds(polynomial)
    found = []
    for n in range(many):
        factor = Surd(1)
        for k in range(start, start + n):
            factor = factor * surd(base)
            for root, exponent in powers:
                factor = factor * Surd(k - Fraction(*root)) ** exponent
        found.append((value(told, start + n) / value(told, start) * factor).number())
    return tuple(found)


def with_factor(formula, root):
    """The formula with n - root put from the powers into the polynomial: a formula alike."""
    base, powers, polynomial = formula
    exponents = {Fraction(*each): exponent for each, exponent in powers}
    exponents[root] = exponents.get(root, 0) + 1
    exponents[root - 1] = exponents.get(root - 1, 0) - 1
    return base, powers_of(exponents), numbers_of(multiplied(surds(polynomial), with_roots([root])))


def without_factor(formula, root):
    """The formula with n - root put from the polynomial, which it divides, into the powers: a formula alike."""
    base, powers, polynomial = formula
    exponents = {Fraction(*each): exponent for each, exponent in powers}
    exponents[root] = exponents.get(root, 0) - 1
    exponents[root - 1] = exponents.get(root - 1, 0) + 1
    quotient_numbers, carried = [], Surd(0)
    for number in reversed(surds(polynomial)):
        carried = carried * root + number
        quotient_numbers.append(carried)
    assert quotient_numbers.pop() == 0
    return base, powers_of(exponents), numbers_of(quotient_numbers[::-1])


def with_number(formula, number):
    base, powers, polynomial = formula
    return base, powers, numbers_of(multiplied(surds(polynomial), [surd(number)]))


def multiplied_rule(triple, base, exponents):
    """The rule of the rows y h, h(n + 1) / h(n) being the base times all (n - r) ** e."""
    a, b, c = [surds(polynomial) for polynomial in triple]
    above = with_roots([root for root in exponents for _ in range(exponents[root])])
    below = with_roots([root for root in exponents for _ in range(-exponents[root])])
    return tuple(numbers_of(polynomial) for polynomial in (
        multiplied(a, below, later(below, 1)), multiplied([Surd(base)], b, later(above, 1), below),
        multiplied([Surd(base * base)], c, above, later(above, 1))))


def multiplied_formula(formula, base, exponents):
    z, powers, polynomial = formula
    total = {Fraction(*root): exponent for root, exponent in powers}
    for root in exponents:
        total[root] = total.get(root, 0) + exponents[root]
    return (surd(z) * base).number(), powers_of(total), polynomial


# Part 5.

def choice_by_words(cs, ds, growth):
    """c_1 to c_i and d_1 to d_j."""
    i, j = (growth, 0) if growth >= 0 else (0, -growth)
    while len(cs) >= i + 1 and len(ds) >= j + 1 and cs[i + 1 - 1] >= ds[j + 1 - 1]:
        i += 1
        j += 1
    return cs[:i], ds[:j]


def choice_powers(over, under):
    return powers_of({root: over.count(root) - under.count(root) for root in over + under})


def root_by_words(fraction):
    """The root that [1.1] tells of a fraction."""
    if fraction == 0:
        return Surd(0)
    size, outside, k = abs(fraction.numerator * fraction.denominator), 1, 2
    while k * k <= size:
        while size % (k * k) == 0:
            size, outside = size // (k * k), outside * k
        k += 1
    d = size if fraction > 0 else -size
    if d == 1:
        return Surd(Fraction(outside, fraction.denominator))
    return Surd(0, Fraction(outside, fraction.denominator), d)


def bases_by_words(polynomials, total):
    a, b, c = polynomials
    sums = [len(a) - 1 + 2 * total, len(b) - 1 + total if b else None, len(c) - 1]
    most = max(each for each in sums if each is not None)
    e2, e1, e0 = [each[-1].a if reached == most else Fraction(0) for each, reached in zip(polynomials, sums)]
    if e2 == 0:
        found = [Surd(-e0 / e1)] if e1 else []
    else:
        root = root_by_words(e1 * e1 - 4 * e2 * e0)
        found = [(Surd(-e1) + root) / (2 * e2), (Surd(-e1) - root) / (2 * e2)]
        if found[0] == found[1]:
            found.pop()
    return [each for each in found if not each == 0]


class Line:
    """One line: growths, base, and what follows of them."""

    def __init__(self, made, growths, base):
        self.growths, self.base = growths, base
        over, under = [], []
        for (_, cs, ds), growth in zip(made.classes(), growths):
            more, less = choice_by_words(cs, ds, growth)
            over, under = over + more, under + less
        self.powers = choice_powers(over, under)
        a, b, c = made.polynomials
        above, below = with_roots(over), with_roots(under)
        self.parts = (multiplied([base * base], a, later(above, 1), above),
                      multiplied([base], b, above, later(below, 1)), multiplied(c, below, later(below, 1)))

    def applied(self, polynomial):
        """F(C)."""
        p2, p1, p0 = self.parts
        return added(multiplied(p2, later(polynomial, 2)),
                     added(multiplied(p1, later(polynomial, 1)), multiplied(p0, polynomial)))

    def degrees(self, most=80):
        """The degrees; where there may be two, those below a bound, each tried."""
        greatest = max(len(part) for part in self.parts) - 1
        p, q, r = [[part[greatest - k] if 0 <= greatest - k < len(part) else Surd(0) for k in range(3)]
                   for part in self.parts]
        assert p[0] + q[0] + r[0] == 0
        slope, rest = p[0] * 2 + q[0], p[1] + q[1] + r[1]
        if not slope == 0:
            d = -rest / slope
            return (int(d.a),) if d.b == 0 and d.a.denominator == 1 and d.a >= 0 else ()
        if not rest == 0:
            return ()
        return tuple(d for d in range(most)
                     if ((p[0] * 4 + q[0]) * (d * (d - 1) // 2) + (p[1] * 2 + q[1]) * d + p[2] + q[2] + r[2]) == 0)

    def equation(self, degree, j):
        found = []
        for k in range(degree + 1):
            image = self.applied([Surd(0)] * k + [Surd(1)])
            found.append(image[j].number() if j < len(image) else (0, 0, 1, 1))
        return tuple(found)

    def told(self):
        return (self.growths, self.base.number(), self.degrees())


def lines_by_words(made):
    found = [()]
    for _, cs, ds in made.classes():
        found = [growths + (growth,) for growths in found for growth in range(-len(ds), len(cs) + 1)]
    return [Line(made, growths, base) for growths in sorted(found)
            for base in bases_by_words(made.polynomials, sum(growths))]


def kernel(line, degree):
    """A basis of all C up to a degree with F(C) = 0, no two with the same degree."""
    rows = []
    for k in range(degree + 1):
        image = line.applied([Surd(0)] * k + [Surd(1)])
        rows.append((image, [Surd(0)] * k + [Surd(1)]))
    found, reduced = [], []
    for image, source in rows:
        for other, origin in reduced:
            if len(image) >= len(other) and not image[len(other) - 1] == 0:
                factor = [-image[len(other) - 1] / other[-1]]
                image, source = added(image, multiplied(factor, other)), added(source, multiplied(factor, origin))
        image = cut(image)
        if image:
            reduced.append((image, source))
            reduced.sort(key=lambda each: -len(each[0]))
        else:
            found.append(source)
    return found
