"""a + b root(d) with fractions a and b, and polynomials as lists of such: the tests' own arithmetic."""

from fractions import Fraction

from tests.support import number_of_pair, pair_of


class Surd:
    def __init__(self, a, b=0, d=1):
        self.a, self.b, self.d = Fraction(a), Fraction(b), d if b else 1

    def root(self, other):
        assert 1 in (self.d, other.d) or self.d == other.d
        return self.d * other.d if 1 in (self.d, other.d) else self.d

    def __add__(self, other):
        other = as_surd(other)
        return Surd(self.a + other.a, self.b + other.b, self.root(other))

    def __mul__(self, other):
        other = as_surd(other)
        d = self.root(other)
        return Surd(self.a * other.a + self.b * other.b * d, self.a * other.b + self.b * other.a, d)

    def __neg__(self):
        return Surd(-self.a, -self.b, self.d)

    def __sub__(self, other):
        return self + -as_surd(other)

    def __truediv__(self, other):
        other = as_surd(other)
        size = other.a ** 2 - other.b ** 2 * other.d
        return self * Surd(other.a / size, -other.b / size, other.d)

    def __pow__(self, exponent):
        power = Surd(1)
        for _ in range(abs(exponent)):
            power = power * self
        return power if exponent >= 0 else Surd(1) / power

    def __eq__(self, other):
        other = as_surd(other)
        return (self.a, self.b, self.d) == (other.a, other.b, other.d)

    def __repr__(self):
        return f"Surd({self.a}, {self.b}, {self.d})"

    def number(self):
        return number_of_pair(self.a, self.b, self.d)


def as_surd(thing):
    return thing if isinstance(thing, Surd) else Surd(thing)


def surd(number):
    a, b = pair_of(number)
    return Surd(a, b, number[3])


def surds(numbers):
    return [surd(number) for number in numbers]


def numbers_of(polynomial):
    return tuple(as_surd(each).number() for each in cut(polynomial))


def cut(polynomial):
    """Without the zeros at the end."""
    found = [as_surd(each) for each in polynomial]
    while found and found[-1] == 0:
        found.pop()
    return found


def added(one, other):
    length = max(len(one), len(other))
    first, second = [list(each) + [Surd(0)] * (length - len(each)) for each in (one, other)]
    return cut([as_surd(a) + as_surd(b) for a, b in zip(first, second)])


def multiplied(*polynomials):
    total = [Surd(1)]
    for polynomial in polynomials:
        longer = [Surd(0)] * (len(total) + len(polynomial))
        for i, a in enumerate(total):
            for k, b in enumerate(polynomial):
                longer[i + k] = longer[i + k] + a * b
        total = cut(longer)
    return total


def later(polynomial, k):
    """The polynomial with n + k in the place of n."""
    total = []
    for number in reversed(polynomial):
        total = added(multiplied(total, [Surd(k), Surd(1)]), [number])
    return total


def value(polynomial, at):
    total = Surd(0)
    for number in reversed(polynomial):
        total = total * at + number
    return total


def with_roots(roots, lead=1):
    """The polynomial with these roots and this last number."""
    return multiplied([Surd(lead)], *[[Surd(-Fraction(root)), Surd(1)] for root in roots])
