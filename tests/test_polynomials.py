"""[2.1] and polynomials.py, but for the roots: test_roots.py."""

import random
import unittest
from fractions import Fraction

from tests.support import (NIL, ONE, ROOT2, ROOT3, answer, any_values, error, number_by_words, number_of_pair, pair_of,
                           polynomial_by_words, together_by_words, told, whole)
from twicestep.errors import BadNumber, BadPolynomial, OtherRoot
from twicestep.polynomials import is_polynomial, is_split, poly_at, poly_moved, poly_plus, poly_times, roots

LESS, HALF, LESS_ROOT2 = (-1, 0, 1, 1), (1, 0, 2, 1), (0, -1, 1, 2)
X = (NIL, ONE)


def from_integers(*integers):
    return tuple(whole(k) for k in integers)


class IsPolynomial(unittest.TestCase):
    def is_one(self, *things):
        for thing in things:
            self.assertIs(is_polynomial(thing), True, thing)

    def is_none(self, *things):
        for thing in things:
            self.assertIs(is_polynomial(thing), False, thing)

    def test_polynomials(self):
        self.is_one((), (ONE,), (NIL, ONE), (ROOT2,), (ONE, NIL, NIL, HALF), (ROOT2, ONE), ((1, 2, 3, -5), NIL, ONE))
        self.is_one((ONE,) * 13, (ROOT2,) * 13, from_integers(*range(-12, 0)))

    def test_last_number_is_not_zero(self):
        self.is_none((NIL,), (ONE, NIL), (NIL, NIL), (ROOT2, NIL), (NIL, ONE, NIL), (ONE,) * 5 + (NIL,))
        self.is_one((NIL, LESS), (NIL, NIL, ROOT2), (NIL,) * 9 + (HALF,))

    def test_any_two_go_together(self):
        self.is_one((ROOT2, ONE, ROOT2), (ONE, ROOT2, HALF, (1, 5, 3, 2)), (NIL, ROOT3, ROOT3))
        self.is_none((ROOT2, ROOT3), (ROOT3, ROOT2), (ROOT2, ONE, ROOT3), (ONE, ROOT2, ONE, ROOT3),
                     (ROOT2, ROOT2, ROOT3))
        self.is_none((ROOT2, NIL, NIL, (0, 1, 1, -2)), (ROOT3, (1, 0, 1, 1), ROOT2, ROOT3), (ROOT3, ROOT2, ONE))
        self.is_none((ROOT2, (0, 1, 1, 6)), ((0, 1, 1, 10), (0, 1, 1, 6)), (ROOT2, ONE, ROOT2, ONE, (1, 1, 1, 5)))

    def test_each_is_a_number(self):
        for bad in ((2, 0, 2, 1), (1, 0, -1, 1), (1, 0, 1, 2), (0, 1, 1, 4), (0, 1, 1, 12), (0, 1, 1, 10 ** 12 + 1),
                    1, None, (True, 0, 1, 1), (1, 0, True, 1), [1, 0, 1, 1], (1, 0, 1), (1, 1, 1, 1), (1, 1, 1, 0), (),
                    "1", (0, 0, 1, 2), (0, 0, 2, 1), (0, 1, 1, -999983 ** 2), (0, 1, 1, 2 * 499979 ** 2)):
            self.is_none((bad,), (ONE, bad), (bad, ONE), (bad, bad), (ONE, bad, ONE), (bad,) + (ONE,) * 8)
            if type(bad) is tuple and len(bad) == 4:
                self.is_none(((0, 1, 1, bad[3]), bad), (bad, ROOT2), (ROOT2, bad))

    def test_other_kinds(self):
        self.is_none([], [ONE], {}, None, True, False, 0, 1, "", ONE, NIL, ROOT2, (ONE, None), {ONE: 1}, ((ONE,),),
                     ((),))

    def test_large_root(self):
        d = 999983 * 999979
        self.is_one(((0, 1, 1, d),) * 13, ((0, 1, 1, -d), ONE, (2, 1, 3, -d)))

    def test_any_value(self):
        counts = {True: 0, False: 0}
        for thing in any_values(21, 1200, (), (ONE,), (ROOT2, ONE), (ROOT3, NIL, (1, 2, 3, 3)), (NIL, HALF, LESS, ONE)):
            wanted = polynomial_by_words(thing)
            self.assertEqual(told(is_polynomial, thing), answer(wanted), thing)
            counts[wanted] += 1
        self.assertGreater(min(counts.values()), 200)


# Polynomials as lists of pairs of fractions, with one d for all.

def root_of_all(*polynomials):
    ds = [number[3] for polynomial in polynomials for number in polynomial if number[1]]
    return ds[0] if ds else 1


def pairs(polynomial):
    return [pair_of(number) for number in polynomial]


def from_pairs(found, d):
    numbers = [number_of_pair(a, b, d) for a, b in found]
    while numbers and numbers[-1] == NIL:
        numbers.pop()
    return tuple(numbers)


def sum_by_words(one, other):
    length = max(len(one), len(other))
    zero = (Fraction(0), Fraction(0))
    first, second = [pairs(each) + [zero] * (length - len(each)) for each in (one, other)]
    return from_pairs([(a + u, b + v) for (a, b), (u, v) in zip(first, second)], root_of_all(one, other))


def product_by_words(one, other):
    d = root_of_all(one, other)
    found = [(Fraction(0), Fraction(0))] * (len(one) + len(other))
    for i, (a, b) in enumerate(pairs(one)):
        for k, (u, v) in enumerate(pairs(other)):
            r, s = found[i + k]
            found[i + k] = (r + a * u + b * v * d, s + a * v + b * u)
    return from_pairs(found, d)


def value_by_words(polynomial, number):
    d = root_of_all(polynomial, (number,))
    a, b = pair_of(number)
    total, power = (Fraction(0), Fraction(0)), (Fraction(1), Fraction(0))
    for u, v in pairs(polynomial):
        r, s = power
        total = (total[0] + u * r + v * s * d, total[1] + u * s + v * r)
        power = (r * a + s * b * d, r * b + s * a)
    return number_of_pair(total[0], total[1], d)


def go_together(one, other):
    return all(together_by_words(p, q) for p in one for q in other)


def binary_by_words(call, one, other):
    """What poly_plus or poly_times has to answer or to raise."""
    for thing in (one, other):
        if not polynomial_by_words(thing):
            return error(BadPolynomial, thing)
    if not go_together(one, other):
        return error(OtherRoot, other)
    return answer(sum_by_words(one, other) if call is poly_plus else product_by_words(one, other))


def at_by_words(polynomial, number):
    if not polynomial_by_words(polynomial):
        return error(BadPolynomial, polynomial)
    if not number_by_words(number):
        return error(BadNumber, number)
    if not go_together(polynomial, (number,)):
        return error(OtherRoot, number)
    return answer(value_by_words(polynomial, number))


def some_polynomial(rng, d, degree=12, size=999):
    numbers = []
    for _ in range(rng.randint(0, degree + 1)):
        a, b = [Fraction(rng.randint(-size, size), rng.randint(1, size)) for _ in range(2)]
        kind = rng.randrange(4)
        numbers.append(number_of_pair(a * (kind > 0), b * (d != 1) * (kind > 1), d))
    while numbers and numbers[-1] == NIL:
        numbers.pop()
    return tuple(numbers)


GOOD = [(), (ONE,), (LESS,), X, (ONE, LESS), (ROOT2,), (ONE, ROOT2), (ROOT2, ONE), (ONE, ROOT3), (ROOT3, NIL, ONE),
        (ROOT2, LESS_ROOT2), (NIL, NIL, (1, 2, 3, 2)), (HALF, (1, 1, 1, -1))]
BAD = [(NIL,), (ONE, NIL), [ONE], ((2, 0, 2, 1),), (ROOT2, ROOT3), None, True, ONE, [], ((True, 0, 1, 1),)]


class PlusAndTimes(unittest.TestCase):
    def check(self, one, other):
        for call in (poly_plus, poly_times):
            self.assertEqual(told(call, one, other), binary_by_words(call, one, other), (call, one, other))

    def test_sums(self):
        self.assertEqual(poly_plus(from_integers(1, 2), from_integers(3, 4)), from_integers(4, 6))
        self.assertEqual(poly_plus(from_integers(1, 2, 3), from_integers(4)), from_integers(5, 2, 3))
        self.assertEqual(poly_plus(from_integers(4), from_integers(1, 2, 3)), from_integers(5, 2, 3))
        self.assertEqual(poly_plus((HALF,), ((1, 0, 3, 1), ROOT2)), ((5, 0, 6, 1), ROOT2))
        self.assertEqual(poly_plus((), X), X)
        self.assertEqual(poly_plus(X, ()), X)
        self.assertEqual(poly_plus((), ()), ())

    def test_highest_numbers_that_take_one_another_away(self):
        self.assertEqual(poly_plus((ONE, ONE), (ONE, LESS)), (whole(2),))
        self.assertEqual(poly_plus((ONE, NIL, ONE), (ONE, NIL, LESS)), (whole(2),))
        self.assertEqual(poly_plus((ONE, ONE, ONE), (ONE, LESS, LESS)), (whole(2),))
        self.assertEqual(poly_plus((ONE, NIL, ONE), (LESS, NIL, LESS)), ())
        self.assertEqual(poly_plus((NIL, NIL, ONE), (NIL, NIL, LESS)), ())
        self.assertEqual(poly_plus((ROOT2,), (LESS_ROOT2,)), ())
        self.assertEqual(poly_plus((ROOT2, ROOT2), (ONE, LESS_ROOT2)), ((1, 1, 1, 2),))
        self.assertEqual(poly_plus((LESS, ONE, ROOT2), (LESS, LESS, LESS_ROOT2)), (whole(-2),))
        self.assertEqual(poly_plus((NIL, ONE, HALF), (NIL, ONE, (-1, 0, 2, 1))), (NIL, whole(2)))

    def test_lower_numbers_that_take_one_another_away_stay_as_zeros(self):
        self.assertEqual(poly_plus((ONE, ONE), (LESS, ONE)), (NIL, whole(2)))
        self.assertEqual(poly_plus((ROOT2, ONE, ONE), (LESS_ROOT2, LESS)), (NIL, NIL, ONE))

    def test_products(self):
        self.assertEqual(poly_times((ONE, ONE), (LESS, ONE)), (LESS, NIL, ONE))
        self.assertEqual(poly_times(from_integers(1, 2, 3), from_integers(4, 5)), from_integers(4, 13, 22, 15))
        self.assertEqual(poly_times((ROOT2, ONE), (LESS_ROOT2, ONE)), (whole(-2), NIL, ONE))
        self.assertEqual(poly_times((ROOT2,), (NIL, ROOT2)), (NIL, whole(2)))
        self.assertEqual(poly_times((HALF, NIL, ROOT3), X), (NIL, HALF, NIL, ROOT3))
        for polynomial in GOOD:
            self.assertEqual(poly_times(polynomial, ()), ())
            self.assertEqual(poly_times((), polynomial), ())
            self.assertEqual(poly_times(polynomial, (ONE,)), polynomial)
            self.assertEqual(poly_times((ONE,), polynomial), polynomial)

    def test_other_root(self):
        for one in ((ROOT2,), (ONE, ROOT2), (ROOT2, ONE), (NIL, ROOT2, ONE)):
            for other in ((ROOT3,), (ONE, ROOT3), (ROOT3, ONE), (NIL, ROOT3, NIL, ONE), ((0, 1, 1, -2),),
                          (ONE, (1, 1, 1, 6))):
                for call in (poly_plus, poly_times):
                    self.assertEqual(told(call, one, other), error(OtherRoot, other))
                    self.assertEqual(told(call, other, one), error(OtherRoot, one))

    def test_good_ones(self):
        for one in GOOD:
            for other in GOOD:
                self.check(one, other)

    def test_first_one_that_is_none(self):
        for call in (poly_plus, poly_times):
            for bad in BAD:
                for other in GOOD:
                    self.assertEqual(told(call, bad, other), error(BadPolynomial, bad))
                    self.assertEqual(told(call, other, bad), error(BadPolynomial, bad))
                for worse in BAD:
                    self.assertEqual(told(call, bad, worse), error(BadPolynomial, bad))

    def test_bad_polynomial_is_ahead_of_other_root(self):
        bad = (ROOT3, NIL)
        for call in (poly_plus, poly_times):
            self.assertEqual(told(call, (ROOT2,), bad), error(BadPolynomial, bad))
            self.assertEqual(told(call, bad, (ROOT2,)), error(BadPolynomial, bad))

    def test_many(self):
        rng = random.Random(22)
        for _ in range(250):
            d = rng.choice([1, 2, -1, 5, -6])
            one, other = some_polynomial(rng, d), some_polynomial(rng, d)
            self.check(one, other)
            self.check(one, poly_times(one, (LESS,)))
            cut = rng.randrange(len(other) + 1)
            self.check(other, poly_plus(poly_times(other, (LESS,)), from_integers(*range(1, cut))))

    def test_large(self):
        rng = random.Random(23)
        for d in (1, 2, -999999999989):
            for _ in range(5):
                self.check(some_polynomial(rng, d, 12, 10 ** 40), some_polynomial(rng, d, 12, 10 ** 40))

    def test_any_values(self):
        rng = random.Random(24)
        things = any_values(25, 150, *GOOD)
        for thing in things:
            for one, other in ((thing, rng.choice(GOOD)), (rng.choice(GOOD), thing), (thing, rng.choice(things))):
                if max(len(each) if type(each) is tuple else 0 for each in (one, other)) <= 40:
                    self.check(one, other)


class At(unittest.TestCase):
    def check(self, polynomial, number):
        self.assertEqual(told(poly_at, polynomial, number), at_by_words(polynomial, number), (polynomial, number))

    def test_values(self):
        self.assertEqual(poly_at((ONE, ONE), ROOT2), (1, 1, 1, 2))
        self.assertEqual(poly_at(from_integers(1, 2, 3), whole(2)), whole(17))
        self.assertEqual(poly_at(from_integers(1, 2, 3), HALF), (11, 0, 4, 1))
        self.assertEqual(poly_at((whole(-2), NIL, ONE), ROOT2), NIL)
        self.assertEqual(poly_at((ROOT2, ONE), ROOT2), (0, 2, 1, 2))
        self.assertEqual(poly_at((NIL, NIL, ONE), (0, 1, 1, -1)), LESS)
        self.assertEqual(poly_at((ONE, ROOT3), whole(-2)), (1, -2, 1, 3))

    def test_0_and_constants(self):
        for number in (NIL, ONE, ROOT2, (1, 2, 3, -5)):
            self.assertEqual(poly_at((), number), NIL)
            self.assertEqual(poly_at((HALF,), number), HALF)
        self.assertEqual(poly_at((ROOT3, ONE), NIL), ROOT3)
        self.assertEqual(poly_at((HALF, ROOT3, ONE), NIL), HALF)

    def test_good_ones(self):
        for polynomial in GOOD:
            for number in (NIL, ONE, LESS, ROOT2, ROOT3, HALF, (1, 2, 3, 2), (1, 1, 1, -1)):
                self.check(polynomial, number)

    def test_many(self):
        rng = random.Random(26)
        for _ in range(300):
            d = rng.choice([1, 2, -1, 7])
            a, b = [Fraction(rng.randint(-50, 50), rng.randint(1, 50)) for _ in range(2)]
            self.check(some_polynomial(rng, d), number_of_pair(a, rng.choice([0, 1]) * (d != 1) * b, d))

    def test_errors_in_their_sequence(self):
        for bad in BAD:
            for number in (ONE, ROOT2, (2, 0, 2, 1), None, [1, 0, 1, 1]):
                self.assertEqual(told(poly_at, bad, number), error(BadPolynomial, bad))
        for number in ((2, 0, 2, 1), None, [1, 0, 1, 1], (True, 0, 1, 1), 1, (0, 1, 1, 12), (0, 2, 2, 3), (ONE,)):
            for polynomial in GOOD:
                self.assertEqual(told(poly_at, polynomial, number), error(BadNumber, number))
        for polynomial in ((ROOT2,), (ONE, ROOT2), (ROOT2, ONE)):
            for number in (ROOT3, (0, 1, 1, -2), (1, 5, 2, 6)):
                self.assertEqual(told(poly_at, polynomial, number), error(OtherRoot, number))

    def test_any_values(self):
        rng = random.Random(27)
        numbers = [NIL, ONE, ROOT2, ROOT3, (1, 2, 3, 2)]
        polynomials, others = any_values(28, 100, *GOOD), any_values(29, 100, *numbers)
        for thing in polynomials:
            if type(thing) is not tuple or len(thing) <= 40:
                self.check(thing, rng.choice(numbers))
                self.check(thing, rng.choice(others))
        for thing in others:
            self.check(rng.choice(GOOD), thing)


class Moved(unittest.TestCase):
    def check(self, polynomial, k):
        moved = poly_moved(polynomial, k)
        self.assertIs(is_polynomial(moved), True)
        self.assertEqual(len(moved), len(polynomial))
        for at in range(-7, 8):
            self.assertEqual(poly_at(moved, whole(at)), value_by_words(polynomial, whole(at + k)), (polynomial, k))

    def test_above_and_below_0(self):
        self.assertEqual(poly_moved(X, 1), (ONE, ONE))
        self.assertEqual(poly_moved(X, -1), (LESS, ONE))
        self.assertEqual(poly_moved((NIL, NIL, ONE), 1), from_integers(1, 2, 1))
        self.assertEqual(poly_moved((NIL, NIL, ONE), -3), from_integers(9, -6, 1))
        self.assertEqual(poly_moved(from_integers(1, 2, 3, 4), 2), from_integers(49, 62, 27, 4))
        self.assertEqual(poly_moved((HALF, ROOT2), 5), ((1, 10, 2, 2), ROOT2))
        self.assertEqual(poly_moved((NIL, NIL, NIL, ROOT3), -1), ((0, -1, 1, 3), (0, 3, 1, 3), (0, -3, 1, 3), ROOT3))

    def test_by_0_and_constants(self):
        for polynomial in GOOD:
            self.assertEqual(poly_moved(polynomial, 0), polynomial)
        for k in (-10 ** 40, -1, 0, 1, 7, 10 ** 40):
            self.assertEqual(poly_moved((), k), ())
            self.assertEqual(poly_moved((HALF,), k), (HALF,))
            self.assertEqual(poly_moved((ROOT2,), k), (ROOT2,))

    def test_lower_numbers_can_become_zero(self):
        self.assertEqual(poly_moved((LESS, ONE), 1), X)
        self.assertEqual(poly_moved(from_integers(9, 6, 1), -3), (NIL, NIL, ONE))

    def test_any_integer(self):
        big = 10 ** 39 + 7
        self.assertEqual(poly_moved(X, big), (whole(big), ONE))
        self.assertEqual(poly_moved((NIL, NIL, ONE), -big), (whole(big * big), whole(-2 * big), ONE))

    def test_many(self):
        rng = random.Random(30)
        for _ in range(100):
            k = rng.choice([-1, 1, -20, 20, rng.randint(-999, 999)])
            self.check(some_polynomial(rng, rng.choice([1, 2, -1])), k)

    def test_there_and_back(self):
        rng = random.Random(31)
        for _ in range(50):
            polynomial, k = some_polynomial(rng, 5), rng.randint(-10 ** 6, 10 ** 6)
            self.assertEqual(poly_moved(poly_moved(polynomial, k), -k), polynomial)


class ByName(unittest.TestCase):
    def test_position_and_name(self):
        for thing in ((), (ONE, NIL), (LESS, NIL, ONE), (ONE, NIL, ONE)):
            self.assertEqual(is_polynomial(thing=thing), is_polynomial(thing))
            self.assertEqual(is_split(thing=thing), is_split(thing))
            self.assertEqual(told(roots, polynomial=thing), told(roots, thing))
        for call in (poly_plus, poly_times):
            for one, other in ((X, (ROOT2,)), ((ONE, HALF), X), ((ROOT2,), (ROOT3,)), ((NIL,), None), (X, [ONE])):
                wanted = binary_by_words(call, one, other)
                self.assertEqual(told(call, one=one, other=other), wanted)
                self.assertEqual(told(call, other=other, one=one), wanted)
                self.assertEqual(told(call, one, other=other), wanted)
        for polynomial, number in ((X, ROOT2), ((ROOT2,), ROOT3), ((NIL,), None), (X, None)):
            wanted = at_by_words(polynomial, number)
            self.assertEqual(told(poly_at, polynomial=polynomial, number=number), wanted)
            self.assertEqual(told(poly_at, number=number, polynomial=polynomial), wanted)
            self.assertEqual(told(poly_at, polynomial, number=number), wanted)
        self.assertEqual(poly_moved(polynomial=X, k=4), (whole(4), ONE))
        self.assertEqual(poly_moved(k=4, polynomial=X), (whole(4), ONE))
        self.assertEqual(poly_moved(X, k=4), (whole(4), ONE))

    def test_the_same_call_gives_the_same(self):
        for _ in range(3):
            self.assertEqual(poly_times((ONE, ONE), (ONE, ONE)), from_integers(1, 2, 1))
            self.assertEqual(roots(from_integers(1, 2, 1)), ((-1, 1), (-1, 1)))
            self.assertEqual(told(roots, ()), error(BadPolynomial, ()))


if __name__ == "__main__":
    unittest.main()
