"""[2.2]: roots and is_split."""

import random
import unittest
from fractions import Fraction
from math import gcd

from tests.support import (NIL, ONE, ROOT2, answer, any_values, error, fraction_number, multiplied_out, plain_by_words,
                           plain_polynomial, told, whole)
from twicestep.errors import BadPolynomial
from twicestep.polynomials import is_split, poly_at, roots

LESS, HALF = (-1, 0, 1, 1), (1, 0, 2, 1)
NINE_DIGITS = 10 ** 9 - 1

# Factors without a root among the fractions; each list begins with the number at n ** 0.
WITHOUT_ROOTS = [
    [1, 0, 1], [-2, 0, 1], [2, 0, 1], [-3, 0, 2], [1, 1, 1], [-1, -1, 1], [1, -4, 1], [-2, 0, 0, 1], [1, -3, 0, 1],
    [-1, -2, 1, 1], [1, 0, 0, 0, 1], [1, 0, -10, 0, 1], [1, 1, 1, 1, 1], [-1, -1, 0, 0, 0, 1], [25, 20, 7], [3, 7, 3],
]
# No squares, but squares modulo 2 ** k and modulo all primes up to a bound (D. Lehmer's list).
LIKE_SQUARES = [73, 241, 1009, 2641, 8089, 18001, 53881, 87481, 117049, 515761, 1083289, 3206641, 3818929, 9257329,
                22000801, 48473881, 175244281, 427733329, 898716289]


def linear(root):
    return [-Fraction(root), Fraction(1)]


def product_of(factors, factor=1):
    """The polynomial of a product of factors and a fraction."""
    return plain_polynomial([Fraction(factor) * number for number in multiplied_out(factors)])


def within_limits(polynomial):
    return len(polynomial) <= 10 and all(max(abs(p), s) <= NINE_DIGITS for p, q, s, d in polynomial)


def as_pairs(fractions):
    return tuple((each.numerator, each.denominator) for each in sorted(Fraction(one) for one in fractions))


class Roots(unittest.TestCase):
    def check(self, wanted, others=(), factor=1):
        """The roots of what has the wanted ones, with repeats, times factors without roots."""
        polynomial = product_of([linear(root) for root in wanted] + list(others), factor)
        self.assertTrue(within_limits(polynomial), polynomial)
        self.assertEqual(told(roots, polynomial), answer(as_pairs(wanted)), polynomial)
        self.assertIs(is_split(polynomial), not others, polynomial)
        return polynomial

    def test_simple_ones(self):
        self.assertEqual(roots((LESS, ONE, whole(2))), ((-1, 1), (1, 2)))
        self.assertEqual(roots((NIL, ONE)), ((0, 1),))
        self.assertEqual(roots((whole(3), whole(-4))), ((3, 4),))
        self.assertEqual(roots((HALF, (1, 0, 3, 1))), ((-3, 2),))
        self.assertEqual(roots((LESS, NIL, ONE)), ((-1, 1), (1, 1)))
        self.assertEqual(roots((whole(-6), whole(11), whole(-6), ONE)), ((1, 1), (2, 1), (3, 1)))

    def test_no_roots(self):
        for factor in WITHOUT_ROOTS:
            self.check([], [factor])
            self.check([], [factor], Fraction(-3, 7))
        self.assertEqual(roots((ONE, NIL, ONE)), ())

    def test_degree_0(self):
        for number in (ONE, LESS, HALF, whole(-NINE_DIGITS), fraction_number(Fraction(4, 9)), whole(10 ** 39)):
            self.assertEqual(roots((number,)), ())
            self.assertIs(is_split((number,)), True)

    def test_repeats(self):
        self.assertEqual(roots((NIL, NIL, ONE)), ((0, 1), (0, 1)))
        self.assertEqual(roots((ONE, whole(2), ONE)), ((-1, 1), (-1, 1)))
        self.check([Fraction(1, 2)] * 9)
        self.check([Fraction(-2, 3)] * 5 + [Fraction(2, 3)] * 4)
        self.check([0] * 9)
        self.check([1, 1, 1, 2, 2, Fraction(1, 2), Fraction(1, 2)], [[1, 0, 1]])
        self.check([0, 0, 3, 3, 3], [[-2, 0, 1], [-2, 0, 1]])
        self.check([5], [[1, 1, 1]] * 4)
        self.check([-1, -1, -1, 7])

    def test_factors_without_roots_may_be_repeated(self):
        for factor in WITHOUT_ROOTS:
            if len(factor) < 5:
                self.check([], [factor, factor])
                self.check([3, 3], [factor, factor], Fraction(2, 5))

    def test_ascending_as_fractions(self):
        self.assertEqual(roots((ONE, whole(-5), whole(6))), ((1, 3), (1, 2)))
        self.assertEqual(self.check([Fraction(1, 3), Fraction(1, 2)], factor=6), (ONE, whole(-5), whole(6)))
        self.check([Fraction(-1, 2), Fraction(-1, 3), Fraction(-1, 4)])
        self.check([Fraction(3, 7), Fraction(2, 5), Fraction(5, 12)])
        self.check([Fraction(10, 3), 3, Fraction(7, 2), Fraction(-10, 3), -3, Fraction(-7, 2)])
        self.check([Fraction(k, 10) for k in range(-4, 5)])
        self.check([Fraction(1, k) for k in range(1, 8)])
        self.check([Fraction(22001, 22000), Fraction(22000, 21999)])
        self.check([0, Fraction(1, 9973), Fraction(-1, 9973)])

    def test_pairs_in_lowest_terms(self):
        for polynomial in ((whole(6), whole(-4)), (whole(12), whole(6)), (whole(-36), NIL, whole(16)), (NIL, whole(5))):
            for top, bottom in roots(polynomial):
                self.assertGreater(bottom, 0)
                self.assertEqual(gcd(top, bottom), 1)
        self.assertEqual(roots((whole(6), whole(-4))), ((3, 2),))
        self.assertEqual(roots((whole(12), whole(6))), ((-2, 1),))
        self.assertEqual(roots((whole(-36), NIL, whole(16))), ((-3, 2), (3, 2)))

    def test_a_fraction_as_factor_changes_nothing(self):
        for factor in (1, -1, 7, Fraction(1, 9), Fraction(-30030, 17), Fraction(10 ** 8 + 1, 64),
                       Fraction(-1, 10 ** 8 + 1)):
            self.check([2, Fraction(-1, 2), Fraction(-1, 2)], factor=factor)
            self.check([3, 0], [[-2, 0, 1]], factor)

    def test_nine_digits(self):
        for top, bottom in ((NINE_DIGITS, 1), (-NINE_DIGITS, 1), (1, NINE_DIGITS), (999999937, 999999929),
                            (-999999929, 999999937)):
            root = Fraction(top, bottom)
            self.check([root])
            self.assertEqual(roots((whole(-top), whole(bottom))), ((top, bottom),))
            self.assertEqual(roots((NIL, fraction_number(-root), ONE)), as_pairs([0, root]))
        self.check([Fraction(21991, 21997), Fraction(21961, 21977)])
        self.check([31607, -31607])
        self.check([997, -991, 983], [])
        self.check([Fraction(7, 11), Fraction(-11, 7), Fraction(3, 11), Fraction(5, 7)], [[-2, 0, 1]])
        polynomial = tuple(fraction_number(Fraction(NINE_DIGITS - 2 * k, NINE_DIGITS - 2 * k - 1)) for k in range(10))
        self.assertTrue(within_limits(polynomial))
        self.assertEqual(roots(polynomial), ())
        self.assertIs(is_split(polynomial), False)

    def test_degree_9_with_numbers_of_nine_digits(self):
        for wanted, others, factor in (
                ([1, 2, 3, 4, 5, 6, 7, 8, 9], [], 1),
                ([Fraction(1, 2), Fraction(1, 3), Fraction(2, 3), 1, -1, 2, -2, 3, Fraction(-1, 2)], [],
                 Fraction(7, 11)),
                ([-4, -3, -2, -1, 0, 1, 2, 3, 4], [], Fraction(99991, 9973)),
                ([2, 2, 2, 2, 2, 2, 2, 2, 2], [], Fraction(1, 512)),
                ([Fraction(-5, 2), Fraction(5, 2), 1, 1, 1], [[1, 0, 0, 0, 1]], Fraction(997, 991)),
                ([Fraction(1, 3)] * 3 + [Fraction(3, 2)] * 3, [[-2, 0, 0, 1]], 1009),
                ([0, 0, 0, 12, -12, 13], [[1, -3, 0, 1]], Fraction(-1, 101)),
                ([1], [[-2, 0, 1], [-3, 0, 1], [-6, 0, 1], [1, 0, 1]], 99991)):
            polynomial = self.check(wanted, others, factor)
            self.assertEqual(len(polynomial), 10)
            self.assertTrue(within_limits(polynomial), polynomial)

    def test_roots_alike_modulo_small_primes(self):
        for k in (6, 30, 210, 2310, 30030, 510510, 9699690, 223092870):
            for wanted in ([0, k], [1, 1 + k], [-k, 0], [0, 0, k], [Fraction(1, k)], [0, Fraction(1, k)]):
                self.check(wanted)
            self.check([k, k], factor=Fraction(1, k))
            self.check([-k, k, 0], factor=Fraction(1, k))
            self.check([0], [[-2 * k, 0, k]])
            self.check([Fraction(1, k)], [[-2, 0, 1]])
        for k in (6, 30, 210):
            self.check([0, k, 2 * k, 3 * k, -k], factor=Fraction(1, k * k))
            self.check([Fraction(1, k), Fraction(1, k + 1), Fraction(1, k - 1)])
            self.check([0, k, k, -k], [[-2, 0, 1]])

    def test_roots_modulo_each_prime_but_none(self):
        for factors in ([[-2, 0, 1], [-3, 0, 1], [-6, 0, 1]], [[1, 0, 1], [-2, 0, 1], [2, 0, 1]],
                        [[-13, 0, 1], [-17, 0, 1], [-221, 0, 1]], [[3, 0, 1], [1, 1, 1], [-19, 0, 0, 1]]):
            self.check([], factors)
            self.check([4, Fraction(1, 3)], factors)

    def test_what_is_almost_split(self):
        for d in LIKE_SQUARES:
            self.check([], [[-d, 0, 1]])
            self.check([], [[-1, 0, d]])
            self.check([0, 1], [[-d, 0, 1]])
            self.check([], [[-d, 0, 1]] * 2, Fraction(1, d))
            if d < 10 ** 8:
                self.check([2], [[-d, 0, 1]] * 2, Fraction(1, d))

    def test_what_is_zero_almost(self):
        self.check([], [[-NINE_DIGITS, 0, 1]])
        self.check([], [[-(31607 ** 2) + 1, 0, 1]])
        self.check([31607, -31607])
        self.check([], [[1 - 2 * 10 ** 8, 0, 2 * 10 ** 8]])
        self.check([], [[-1, -1, 10 ** 8]])

    def test_many(self):
        rng = random.Random(41)
        degrees = [0] * 10
        for _ in range(2500):
            size = rng.choice([2, 4, 10, 60, 999])
            wanted, others, room = [], [], rng.randint(1, 9)
            while room:
                factor = rng.choice(WITHOUT_ROOTS)
                if rng.random() < 0.15 and len(factor) - 1 <= room:
                    others.append(factor)
                    room -= len(factor) - 1
                else:
                    root = Fraction(rng.randint(-size, size), rng.randint(1, size))
                    wanted.append(rng.choice(wanted) if wanted and rng.random() < 0.3 else root)
                    room -= 1
            factor = Fraction(rng.choice([-1, 1]) * rng.randint(1, 999), rng.randint(1, 999))
            if within_limits(product_of([linear(root) for root in wanted] + others, factor)):
                self.check(wanted, others, factor)
                degrees[len(wanted) + sum(len(factor) - 1 for factor in others)] += 1
        self.assertGreater(min(degrees[1:]), 15)

    def test_numbers_at_random_have_no_roots_but_those_told(self):
        rng = random.Random(42)
        for degree in [2, 3, 3, 4] * 8 + [9] * 100:
            numbers = [rng.choice([-1, 1]) * rng.randint(1, NINE_DIGITS) for _ in range(degree + 2)]
            polynomial = plain_polynomial([Fraction(one, abs(other)) for one, other in zip(numbers[1:], numbers)])
            self.assertEqual(roots(polynomial), roots_by_halving(polynomial) if degree < 5 else ())
            self.assertIs(is_split(polynomial), False)

    def test_small_ones_as_by_halving(self):
        rng = random.Random(43)
        counts = {}
        for _ in range(600):
            lower = [rng.randint(-9, 9) for _ in range(rng.randint(1, 6))]
            polynomial = plain_polynomial(lower + [rng.randint(1, 6)])
            wanted = roots_by_halving(polynomial)
            self.assertEqual(told(roots, polynomial), answer(wanted), polynomial)
            self.assertIs(is_split(polynomial), len(wanted) == len(polynomial) - 1, polynomial)
            counts[len(wanted)] = counts.get(len(wanted), 0) + 1
        self.assertGreater(min(counts[0], counts[1], counts[2]), 9)

    def test_each_root_is_zero(self):
        polynomial = self.check([Fraction(3, 5), Fraction(-7, 9), 4], [[-2, 0, 1]])
        for top, bottom in roots(polynomial):
            self.assertEqual(poly_at(polynomial, (top, 0, bottom, 1)), NIL)


def slope(numbers):
    return [k * number for k, number in enumerate(numbers)][1:]


def value(numbers, at):
    total = 0
    for number in reversed(numbers):
        total = total * at + number
    return total


def marks(numbers):
    """Ascending integers m, so that each zero on the line lies between some m and m + 1.

    Between the zeros of the slope the values ascend or descend, so halving finds the zeros there.
    """
    if len(numbers) < 2:
        return []
    inner = marks(slope(numbers))
    bound = 2 + max(abs(number) for number in numbers) // abs(numbers[-1])
    found = set(inner)
    lows, highs = [-bound] + [mark + 1 for mark in inner], inner + [bound]
    for low, high in zip(lows, highs):
        first = value(numbers, low) if low <= high else 1
        if low > high or first * value(numbers, high) > 0:
            continue
        while high - low > 1:
            middle = (low + high) // 2
            if first * value(numbers, middle) > 0:
                low = middle
            else:
                high = middle
        found.update((low, high))
    return sorted(found)


def roots_by_halving(polynomial):
    """The roots, from the integers at which the polynomial with n over its last number is zero."""
    fractions = [Fraction(p, s) for p, q, s, d in polynomial]
    bottom = 1
    for fraction in fractions:
        bottom = bottom * fraction.denominator // gcd(bottom, fraction.denominator)
    numbers = [int(fraction * bottom) for fraction in fractions]
    last, degree = numbers[-1], len(numbers) - 1
    monic = [number * last ** (degree - 1 - k) for k, number in enumerate(numbers[:-1])] + [1]
    found = []
    for at in sorted({at for mark in marks(monic) for at in (mark - 1, mark, mark + 1)}):
        while len(monic) > 1 and value(monic, at) == 0:
            found.append(Fraction(at, last))
            quotient = []
            for number in reversed(monic[1:]):
                quotient.append(number + at * (quotient[-1] if quotient else 0))
            monic = quotient[::-1]
    return as_pairs(found)


class IsSplit(unittest.TestCase):
    def test_split_and_not(self):
        for polynomial in ((ONE,), (NIL, ONE), (LESS, NIL, ONE), (NIL,) * 12 + (HALF,),
                           (whole(-6), whole(11), whole(-6), ONE)):
            self.assertIs(is_split(polynomial), True)
        for thing in ((ONE, NIL, ONE), (whole(-2), NIL, ONE), (NIL, ONE, NIL, ONE), (LESS, NIL, NIL, ONE),
                      (ONE, ONE, ONE)):
            self.assertIs(is_split(thing), False)

    def test_0_is_not_split(self):
        self.assertIs(is_split(()), False)

    def test_what_is_not_plain(self):
        for thing in ((ROOT2,), (ROOT2, ONE), (ONE, ROOT2), ((0, -1, 1, 2), ONE), ((0, 1, 1, -1), NIL, ONE),
                      (whole(2), (0, -2, 1, 2), ONE)):
            self.assertIs(is_split(thing), False)
            self.assertEqual(told(roots, thing), error(BadPolynomial, thing))

    def test_what_is_no_polynomial(self):
        for thing in ((NIL,), (ONE, NIL), (LESS, ONE, NIL), [ONE], [], ONE, None, True, 1, "", {}, ((2, 0, 2, 1),),
                      (ONE, None), ((True, 0, 1, 1),), (1, 2), ((-1, 1), (1, 1)), ([1, 0, 1, 1],),
                      (LESS, (1, 0, 1, True))):
            self.assertIs(is_split(thing), False)
            self.assertEqual(told(roots, thing), error(BadPolynomial, thing))

    def test_roots_of_0(self):
        self.assertEqual(told(roots, ()), error(BadPolynomial, ()))

    def test_high_degrees(self):
        """Any value means polynomials far beyond the limits, too."""
        rng = random.Random(44)
        self.assertIs(is_split((NIL,) * 500 + (ONE,)), True)
        self.assertIs(is_split((ONE,) * 100), False)
        self.assertIs(is_split((LESS,) + (NIL,) * 100 + (ONE,)), False)
        self.assertIs(is_split(product_of([[1, 1]] * 60)), True)
        self.assertIs(is_split(product_of([[1, 1]] * 30 + [[2, 1]] * 30)), True)
        self.assertIs(is_split(product_of([[1, 1]] * 60 + [[1, 1, 1]])), False)
        self.assertIs(is_split(product_of([[-k, 1] for k in range(-15, 16)])), True)
        self.assertIs(is_split(product_of([[-k, 1] for k in range(-15, 16)] + [[-2, 0, 1]])), False)
        self.assertIs(is_split(product_of([[-k, 1] for k in range(-9, 10)] + [[-898716289, 0, 1]])), False)
        numbers = [rng.choice([-1, 1]) * rng.randint(1, 10 ** 40 - 1) for _ in range(60)]
        fractions = [Fraction(one, other) for one, other in zip(numbers[1:], numbers)]
        self.assertIs(is_split(plain_polynomial(fractions)), False)

    def test_forty_digits(self):
        big = 5 * 10 ** 39 - 17
        self.assertIs(is_split((whole(big), whole(-big + 2))), True)
        self.assertIs(is_split((whole(-(10 ** 19 + 51) ** 2), NIL, ONE)), True)
        self.assertIs(is_split((whole(-(10 ** 19 + 51) ** 2 + 2), NIL, ONE)), False)
        self.assertIs(is_split((fraction_number(Fraction(-4, (10 ** 19 + 51) ** 2)), NIL, ONE)), True)
        self.assertIs(is_split((whole(big), whole(big), whole(big))), False)
        self.assertIs(is_split((whole(big), whole(-2 * big), whole(big))), True)

    def test_any_value(self):
        counts = {}
        kinds = [(ROOT2, ONE), ()]
        for wanted, others, factor in (([], [], 3), ([1, 2], [], 1), ([0, 0, Fraction(1, 2)], [], 5),
                                       ([3], [], Fraction(1, 7)), ([1, 1], [[1, 0, 1]], 1),
                                       ([], [[-2, 0, 1]], Fraction(2, 3))):
            kinds.append(product_of([linear(root) for root in wanted] + others, factor))
        for thing in any_values(45, 1000, *kinds):
            plain = plain_by_words(thing)
            if plain and len(thing) > 20:
                continue
            wanted = roots_by_halving(thing) if plain else ()
            split = plain and len(wanted) == len(thing) - 1
            self.assertEqual(told(is_split, thing), answer(split), thing)
            if not plain:
                self.assertEqual(told(roots, thing), error(BadPolynomial, thing))
            elif within_limits(thing):
                self.assertEqual(told(roots, thing), answer(wanted), thing)
            key = (plain, split)
            counts[key] = counts.get(key, 0) + 1
        self.assertGreater(min(counts[True, True], counts[True, False], counts[False, False]), 100)


if __name__ == "__main__":
    unittest.main()
