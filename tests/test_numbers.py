"""[1.1] and numbers.py."""

import random
import unittest
from fractions import Fraction
from math import gcd, isqrt

from tests.support import (EDGES, NIL, ONE, ROOT2, ROOT3, answer, any_values, error, number_by_words, number_of_pair,
                           pair_of, square_free, together_by_words, told, whole)
from twicestep.errors import BadNumber, OtherRoot
from twicestep.numbers import is_number, minus, number_of, over, plus, root_of, times

LIMIT = 10 ** 12
BINARY = (plus, minus, times, over)

# Squares of primes, also beside other primes, of all sizes up to the limit.
WITH_SQUARE = [
    4, 8, 9, 12, 16, 18, 20, 25, 27, 45, 49, 50, 75, 98, 121, 169, 243, 1000, 999_999, 97 ** 2, 97 ** 3, 97 ** 6,
    2 ** 39, 3 ** 25, 10 ** 12, 9973 ** 3, 9973 ** 2 * 9967, 9973 ** 2 * 10007, 10007 ** 2 * 9973, 31607 ** 2 * 7,
    99991 ** 2 * 97, 99991 ** 2 * 2, 499979 ** 2 * 3, 577351 ** 2, 2 * 707099 ** 2, 707099 ** 2, 999983 ** 2,
    101 ** 2 * 99989, 499979 ** 2, 1009 ** 2 * 97 * 991, 2 * 3 * 5 * 7 * 11 * 13 * 17 * 19 * 23 * 23,
]
WITHOUT_SQUARE = [
    2, 3, 5, 6, 7, 10, 30, 97, 210, 9973, 9973 * 9967 * 9949, 999983 * 999979, 999983, 999999999989, 10 ** 12 - 2,
    2 * 3 * 5 * 7 * 11 * 13 * 17 * 19 * 23 * 29 * 31, 2 * 499999999979, 10007 * 10009 * 9973, 99991 * 99989 * 97,
]
# Beyond the limit, and no square divides them.
TOO_LARGE = [10 ** 12 + 1, 10 ** 12 + 39, 10 ** 12 + 2, 10 ** 13 + 37, 2 * 10 ** 12 + 26, 10 ** 39 + 3]


class IsNumber(unittest.TestCase):
    def is_one(self, *things):
        for thing in things:
            self.assertIs(is_number(thing), True, thing)

    def is_none(self, *things):
        for thing in things:
            self.assertIs(is_number(thing), False, thing)

    def test_lists_hold_what_they_say(self):
        for d in WITH_SQUARE:
            self.assertTrue(d <= LIMIT and not square_free(d), d)
        for d in WITHOUT_SQUARE:
            self.assertTrue(d <= LIMIT and square_free(d), d)

    def test_numbers(self):
        self.is_one(NIL, ONE, (-1, 0, 1, 1), (3, 0, 2, 1), (1, 1, 1, 2), (0, 1, 1, -1), (5, -7, 3, -6), (0, -1, 9, 2))
        self.is_one((10 ** 299, 0, 1, 1), (1, 0, 10 ** 299, 1), (10 ** 299, 10 ** 299 + 1, 10 ** 298, 2))

    def test_s_is_from_1_on(self):
        self.is_one((3, 0, 1, 1), (3, 2, 1, 5))
        self.is_none((1, 0, 0, 1), (1, 0, -1, 1), (0, 0, 0, 1), (0, 0, -1, 1), (3, 2, 0, 5), (3, 2, -1, 5),
                     (1, 0, -7, 1))

    def test_no_common_divisor(self):
        self.is_none((2, 0, 4, 1), (2, 4, 6, 2), (0, 0, 2, 1), (6, 9, 3, 5), (0, 5, 5, 2), (-7, 0, 7, 1),
                     (35, 14, 49, 3))
        self.is_none((10 ** 150, 0, 10 ** 150, 1), (3 * 10 ** 20, 6 * 10 ** 21, 3 * 10 ** 22, 7), (97, 97, 97, 97))

    def test_two_of_three_may_have_a_common_divisor(self):
        self.is_one((2, 4, 3, 2), (2, 3, 4, 2), (3, 2, 4, 2), (0, 3, 2, 5), (6, 10, 15, 7), (2, 2, 1, 2), (4, 6, 3, 2))

    def test_d_may_have_a_common_divisor_with_the_others(self):
        self.is_one((2, 2, 3, 2), (1, 1, 2, 2), (6, 1, 6, 6), (3, 1, 3, -3))

    def test_d_of_a_fraction_is_1(self):
        self.is_none((1, 0, 2, 3), (1, 0, 1, 0), (1, 0, 1, -1), (0, 0, 1, 2), (0, 0, 1, 0), (1, 0, 1, 4),
                     (5, 0, 3, 10 ** 13))

    def test_d_is_neither_0_nor_1(self):
        self.is_none((1, 1, 1, 1), (1, 1, 1, 0), (0, 1, 1, 1), (0, 1, 1, 0), (0, -1, 2, 1), (5, 3, 2, 0))
        self.is_one((1, 1, 1, -1), (0, 1, 2, -1))

    def test_squares_do_not_divide_d(self):
        for d in WITH_SQUARE:
            self.is_none((0, 1, 1, d), (1, 3, 2, -d), (0, 1, 1, -d))
        for d in WITHOUT_SQUARE:
            self.is_one((0, 1, 1, d), (1, 3, 2, -d), (0, 1, 1, -d))

    def test_small_d(self):
        for d in range(-400, 401):
            free = d not in (0, 1) and not any(d % (k * k) == 0 for k in range(2, 21))
            self.assertIs(is_number((1, 2, 3, d)), free, d)

    def test_bound_of_d(self):
        self.is_one((0, 1, 1, LIMIT - 2), (0, 1, 1, 2 - LIMIT))
        self.is_none((0, 1, 1, LIMIT), (0, 1, 1, -LIMIT))
        for d in TOO_LARGE:
            self.is_none((0, 1, 1, d), (0, 1, 1, -d))

    def test_bools_and_lists_and_other_kinds(self):
        self.is_none((True, 0, 1, 1), (False, 0, 1, 1), (1, False, 1, 1), (1, True, 1, 2), (1, 0, True, 1))
        self.is_none((1, 0, 1, True), [1, 0, 1, 1], [0, 1, 1, 2], (1, 0, 1), (1, 0, 1, 1, 1), (), None, True, 1, "1011")
        self.is_none((None, 0, 1, 1), (1, 0, "1", 1), (1, (0,), 1, 1), ([1], 0, 1, 1), {0: 1}, ((1, 0, 1, 1),))

    def test_any_value(self):
        counts = {True: 0, False: 0}
        for thing in any_values(1, 1500, NIL, ONE, ROOT2, (3, -5, 7, -6), (10 ** 20, 1, 3, 30), (2, 0, 9, 1)):
            reply = told(is_number, thing)
            self.assertEqual(reply, answer(number_by_words(thing)), thing)
            counts[number_by_words(thing)] += 1
        self.assertGreater(min(counts.values()), 200)


def square_split(d):
    """The greatest f whose square divides d, and d over this square, found without thought."""
    f = max(k for k in range(1, isqrt(abs(d)) + 1) if d % (k * k) == 0)
    return f, d // (f * f)


def number_by_value(p, q, s, d):
    """What number_of has to answer, for a small d."""
    f, rest = square_split(d)
    a, b = Fraction(p, s), Fraction(q * f, s)
    return number_of_pair(a + b, Fraction(0), 1) if rest == 1 else number_of_pair(a, b, rest)


class NumberOf(unittest.TestCase):
    def check(self, values, number):
        self.assertEqual(told(number_of, *values), answer(number))

    def test_lowest_terms(self):
        self.check((2, 0, 4, 1), (1, 0, 2, 1))
        self.check((6, 9, 12, 2), (2, 3, 4, 2))
        self.check((2, 4, 3, 2), (2, 4, 3, 2))
        self.check((0, 6, 4, 5), (0, 3, 2, 5))

    def test_s_below_0(self):
        self.check((1, 0, -2, 1), (-1, 0, 2, 1))
        self.check((2, -4, -6, 2), (-1, 2, 3, 2))
        self.check((0, 0, -5, 1), NIL)
        self.check((0, 3, -1, -1), (0, -3, 1, -1))
        self.check((-1, 0, -1, 7), ONE)

    def test_d_below_0(self):
        self.check((0, 1, 1, -1), (0, 1, 1, -1))
        self.check((0, 1, 2, -4), (0, 1, 1, -1))
        self.check((1, 1, 1, -8), (1, 2, 1, -2))
        self.check((1, 5, 1, -9), (1, 15, 1, -1))
        self.check((1, 5, -1, -12), (-1, -10, 1, -3))

    def test_squares_give_fractions(self):
        self.check((3, 1, 3, 4), (5, 0, 3, 1))
        self.check((3, 1, 3, 1), (4, 0, 3, 1))
        self.check((-3, 1, 5, 9), NIL)
        self.check((1, -2, 4, 25), (-9, 0, 4, 1))
        self.check((0, 1, 1, 10 ** 12), whole(10 ** 6))

    def test_without_root_d_does_not_matter(self):
        for d in (1, 2, 4, -1, -8, 12, 10 ** 12, 999999999989):
            self.check((4, 0, 6, d), (2, 0, 3, 1))
            self.check((0, 0, 6, d), NIL)

    def test_large_squares(self):
        for k in (997, 9973, 99991, 499979, 707099, 999979, 999983):
            self.check((1, 1, 1, k * k), whole(k + 1))
            self.check((1, 1, 1, -k * k), (1, k, 1, -1))
        for k, rest in ((707099, 2), (577349, 3), (499979, 3), (99991, 97), (99991, 30), (9973, 10007), (9973, 9967),
                        (10007, 9973), (31607, 997), (101, 99989), (3, 99999999977), (1000, 999983)):
            self.assertLessEqual(k * k * rest, LIMIT)
            self.check((1, 1, 1, k * k * rest), (1, k, 1, rest))
            self.check((1, 2, 3, -k * k * rest), (1, 2 * k, 3, -rest))
        self.check((0, 1, 1, 9973 ** 3), (0, 9973, 1, 9973))
        self.check((0, 1, 1, 2 ** 39), (0, 2 ** 19, 1, 2))
        self.check((0, 1, 1, 3 ** 24), whole(3 ** 12))
        self.check((0, 1, 1, 5 ** 3 * 7 ** 5 * 11 ** 2), (0, 5 * 49 * 11, 1, 35))
        for d in WITHOUT_SQUARE:
            self.check((0, 3, 5, d), (0, 3, 5, d))
            self.check((0, 3, 5, -d), (0, 3, 5, -d))

    def test_small_ones_of_all_kinds(self):
        rng = random.Random(2)
        for d in list(range(-130, 131)) + [rng.randint(-5000, 5000) for _ in range(300)]:
            if d != 0:
                for _ in range(4):
                    p, q, s = rng.randint(-30, 30), rng.randint(-30, 30), rng.choice([-1, 1]) * rng.randint(1, 30)
                    self.check((p, q, s, d), number_by_value(p, q, s, d))

    def test_many_digits(self):
        rng = random.Random(3)
        for _ in range(100):
            p, q, s = [rng.choice([-1, 1]) * rng.randint(1, 10 ** rng.choice([20, 300]) - 1) for _ in range(3)]
            d = rng.choice([1, 2, 4, -3, 72, -50, 1000])
            self.check((p, q, s, d), number_by_value(p, q, s, d))

    def test_what_it_answers_is_a_number(self):
        rng = random.Random(4)
        for _ in range(200):
            p, q, s = rng.randint(-99, 99), rng.randint(-99, 99), rng.choice([-7, -4, -1, 1, 6, 60])
            d = rng.choice([-1, 1]) * rng.randint(1, 10 ** rng.randint(1, 12))
            self.assertIs(is_number(number_of(p, q, s, d)), True)

    def test_a_number_stays(self):
        for number in (NIL, ONE, ROOT2, (5, -7, 3, -6), (1, 1, 1, -1), (1, 0, 2, 1)):
            self.check(number, number)

    def test_bad_number_with_all_four(self):
        for values in ((1, 0, 0, 1), (1, 0, 1, 0), (1, 1, 1, 0), (0, 0, 0, 0), (1, 1, 0, 2), (True, 0, 1, 1),
                       (1, False, 1, 1), (1, 0, True, 1), (1, 0, 1, True), (None, 0, 1, 1), (1, "0", 1, 1),
                       (1, 0, [1], 1), (1, 0, 1, (1,)), (1, 0, 1, None), ({}, [], "", ())):
            self.assertEqual(told(number_of, *values), error(BadNumber, values))

    def test_any_values(self):
        rng = random.Random(5)
        things = [thing for thing in any_values(6, 200) if type(thing) is not int] + [0] * 30
        for _ in range(1500):
            values = [rng.randint(-10 ** 40, 10 ** 40) for _ in range(3)] + [rng.choice([1, 2, -5])]
            for _ in range(rng.randrange(1, 4)):
                values[rng.randrange(4)] = rng.choice(things)
            p, q, s, d = values
            if all(type(one) is int for one in values) and s != 0 and d != 0:
                self.check(values, number_by_value(p, q, s, d))
            else:
                self.assertEqual(told(number_of, *values), error(BadNumber, tuple(values)))


def arithmetic_by_words(call, one, other):
    """What one of the four has to answer or to raise."""
    for thing in (one, other):
        if not number_by_words(thing):
            return error(BadNumber, thing)
    if call is over and other == NIL:
        return error(BadNumber, other)
    if not together_by_words(one, other):
        return error(OtherRoot, other)
    (a, b), (u, v) = pair_of(one), pair_of(other)
    d = one[3] if b else other[3]
    if call is over:
        norm = u * u - v * v * d
        u, v = u / norm, -v / norm
    if call is plus:
        a, b = a + u, b + v
    elif call is minus:
        a, b = a - u, b - v
    else:
        a, b = a * u + b * v * d, a * v + b * u
    return answer(number_of_pair(a, b, d))


def some_number(rng, d):
    size = 10 ** rng.choice([1, 1, 2, 9, 300]) - 1
    p, q = rng.randint(-size, size), rng.choice([0, 1, 1]) * rng.randint(-size, size)
    s = rng.choice([1, rng.randint(1, size)])
    divisor = gcd(p, q, s)
    return (p // divisor, q // divisor, s // divisor, d if q else 1)


class Arithmetic(unittest.TestCase):
    def check(self, one, other):
        for call in BINARY:
            self.assertEqual(told(call, one, other), arithmetic_by_words(call, one, other), (call, one, other))

    def test_fractions(self):
        half, third = (1, 0, 2, 1), (1, 0, 3, 1)
        self.assertEqual([call(half, third) for call in BINARY],
                         [(5, 0, 6, 1), (1, 0, 6, 1), (1, 0, 6, 1), (3, 0, 2, 1)])
        self.assertEqual([call(third, half) for call in BINARY],
                         [(5, 0, 6, 1), (-1, 0, 6, 1), (1, 0, 6, 1), (2, 0, 3, 1)])
        self.assertEqual(over(half, (-1, 0, 3, 1)), (-3, 0, 2, 1))

    def test_with_roots(self):
        one, other = (1, 1, 1, 2), (3, -1, 2, 2)
        self.assertEqual([call(one, other) for call in BINARY],
                         [(5, 1, 2, 2), (-1, 3, 2, 2), (1, 2, 2, 2), (10, 8, 7, 2)])
        self.assertEqual(times((0, 1, 1, -1), (0, 1, 1, -1)), whole(-1))
        self.assertEqual(over(ONE, (0, 1, 1, -1)), (0, -1, 1, -1))
        self.assertEqual(over(ONE, (2, 1, 1, 5)), (-2, 1, 1, 5))
        self.assertEqual(over((1, 1, 2, -3), (0, 2, 3, -3)), (3, -1, 4, -3))

    def test_roots_that_take_one_another_away(self):
        self.assertEqual(plus((1, 1, 1, 2), (1, -1, 1, 2)), whole(2))
        self.assertEqual(plus(ROOT2, (0, -1, 1, 2)), NIL)
        self.assertEqual(minus((1, 1, 1, 2), ROOT2), ONE)
        self.assertEqual(minus(ROOT2, ROOT2), NIL)
        self.assertEqual(times(ROOT2, ROOT2), whole(2))
        self.assertEqual(times((1, 1, 1, 2), (1, -1, 1, 2)), whole(-1))
        self.assertEqual(over((0, 3, 5, 7), (0, 1, 2, 7)), (6, 0, 5, 1))

    def test_zero(self):
        for number in (NIL, ONE, ROOT2, (3, -2, 5, -7)):
            p, q, s, d = number
            self.assertEqual(plus(number, NIL), number)
            self.assertEqual(plus(NIL, number), number)
            self.assertEqual(minus(number, NIL), number)
            self.assertEqual(minus(NIL, number), (-p, -q, s, d))
            self.assertEqual(minus(number, number), NIL)
            self.assertEqual(times(number, NIL), NIL)
            self.assertEqual(times(NIL, number), NIL)
            if number != NIL:
                self.assertEqual(over(NIL, number), NIL)
                self.assertEqual(over(number, number), ONE)

    def test_small_numbers(self):
        small = [number for p in range(-2, 3) for q in range(-2, 3) for s in (1, 2, 3) for d in (1, 2, -1)
                 for number in [(p, q, s, d)] if number_by_words(number)]
        for one in small:
            for other in small:
                self.check(one, other)

    def test_many_digits(self):
        rng = random.Random(7)
        for _ in range(400):
            d = rng.choice([2, 3, -1, -2, 5, 6, -7, 999999999989, -999999999989])
            self.check(some_number(rng, d), some_number(rng, d))

    def test_other_root(self):
        for one, other in ((ROOT2, ROOT3), (ROOT3, ROOT2), (ROOT2, (0, 1, 1, -2)), ((1, 1, 1, -1), (1, 1, 1, -3)),
                           ((5, 1, 2, 6), (5, 1, 2, 10)), (ROOT2, (0, 1, 1, 6))):
            for call in BINARY:
                self.assertEqual(told(call, one, other), error(OtherRoot, other))

    def test_fractions_go_together_with_all(self):
        for other in (ROOT2, ROOT3, (1, 2, 3, -5)):
            self.check((2, 0, 3, 1), other)
            self.check(other, (2, 0, 3, 1))

    def test_first_one_that_is_none(self):
        bad, worse = (2, 0, 4, 1), [1, 0, 1, 1]
        for call in BINARY:
            self.assertEqual(told(call, bad, worse), error(BadNumber, bad))
            self.assertEqual(told(call, worse, bad), error(BadNumber, worse))
            for good in (NIL, ONE, ROOT2):
                self.assertEqual(told(call, good, bad), error(BadNumber, bad))
                self.assertEqual(told(call, bad, good), error(BadNumber, bad))

    def test_bad_number_is_ahead_of_other_root(self):
        for call in BINARY:
            for bad in ((0, 1, 1, 12), (0, 1, 1, 10 ** 12 + 1), (0, 2, 2, 3), (0, 1, -1, 3), (0, 1, 1, 4)):
                self.assertEqual(told(call, ROOT2, bad), error(BadNumber, bad))
                self.assertEqual(told(call, bad, ROOT2), error(BadNumber, bad))

    def test_over_with_zero(self):
        for one in (NIL, ONE, ROOT2, (1, 2, 3, -7)):
            self.assertEqual(told(over, one, NIL), error(BadNumber, NIL))
        for bad in ((0, 0, 2, 1), (1, 0, 1, 2), None, True, [0, 0, 1, 1]):
            self.assertEqual(told(over, bad, NIL), error(BadNumber, bad))
            self.assertEqual(told(over, ONE, bad), error(BadNumber, bad))

    def test_any_values(self):
        rng = random.Random(8)
        things = any_values(9, 150, NIL, ONE, ROOT2, (3, -5, 7, -6))
        good = [NIL, ONE, ROOT2, ROOT3, (1, 0, 2, 1), (3, -5, 7, -6), (1, 1, 2, 2)]
        for thing in things:
            for one, other in ((thing, rng.choice(good)), (rng.choice(good), thing), (thing, rng.choice(things))):
                self.check(one, other)


def root_by_words(top, bottom):
    """The root of top / bottom from the answer that the words allow just once: looked for among all q and d."""
    fraction = Fraction(top, bottom)
    number = fraction.numerator * fraction.denominator
    if number == 0:
        return NIL
    f, d = square_split(number)
    root = Fraction(f, fraction.denominator)
    return number_of_pair(root, Fraction(0), 1) if d == 1 else number_of_pair(Fraction(0), root, d)


class RootOf(unittest.TestCase):
    def check(self, top, bottom, number):
        self.assertEqual(told(root_of, top, bottom), answer(number), (top, bottom))

    def test_fractions(self):
        self.check(9, 4, (3, 0, 2, 1))
        self.check(1, 1, ONE)
        self.check(-4, -9, (2, 0, 3, 1))
        self.check(8, 18, (2, 0, 3, 1))
        self.check(10 ** 6, 1, whole(1000))
        self.check(1, 10 ** 6, (1, 0, 1000, 1))
        self.check(-999983, -999983, ONE)

    def test_zero(self):
        for bottom in (1, 2, -1, -7, 10 ** 6):
            self.check(0, bottom, NIL)

    def test_roots(self):
        self.check(8, 9, (0, 2, 3, 2))
        self.check(9, 8, (0, 3, 4, 2))
        self.check(1, 2, (0, 1, 2, 2))
        self.check(2, 1, ROOT2)
        self.check(6, 4, (0, 1, 2, 6))
        self.check(-3, -2, (0, 1, 2, 6))

    def test_below_0(self):
        self.check(-1, 4, (0, 1, 2, -1))
        self.check(1, -4, (0, 1, 2, -1))
        self.check(-1, 1, (0, 1, 1, -1))
        self.check(-8, 9, (0, 2, 3, -2))
        self.check(8, -9, (0, 2, 3, -2))
        self.check(3, -2, (0, 1, 2, -6))

    def test_large_ones(self):
        self.check(999983, 999979, (0, 1, 999979, 999983 * 999979))
        self.check(-999983, 999979, (0, 1, 999979, -999983 * 999979))
        self.check(997 ** 2, 991 ** 2, (997, 0, 991, 1))
        self.check(997 ** 2, 2 * 499979, (0, 997, 999958, 999958))
        self.check(2 * 701 ** 2, 3 * 571 ** 2, (0, 701, 3 * 571, 6))
        self.check(499979 * 2, 499979, ROOT2)
        self.check(97 ** 3, 89 ** 3, (0, 97, 89 ** 2, 97 * 89))

    def test_all_small_ones(self):
        for top in range(-40, 41):
            for bottom in range(-40, 41):
                if bottom != 0:
                    number = root_of(top, bottom)
                    self.check(top, bottom, root_by_words(top, bottom))
                    self.assertEqual(times(number, number), number_of(top, 0, bottom, 1))

    def test_square_of_what_it_answers(self):
        rng = random.Random(10)
        for _ in range(300):
            top, bottom = [rng.choice([-1, 1]) * rng.randint(1, 10 ** rng.randint(1, 6)) for _ in range(2)]
            number = root_of(top, bottom)
            p, q, s, d = number
            self.assertIs(is_number(number), True)
            self.assertEqual(times(number, number), number_of(top, 0, bottom, 1))
            self.assertTrue((p == 0 and q > 0) or (q == 0 and p > 0))

    def test_bad_number_with_the_pair(self):
        for pair in ((1, 0), (0, 0), (-5, 0), (True, 1), (1, True), (1, False), (False, 1), (None, 1), (1, None),
                     ("1", 1), (1, [1]), ((1,), 1), (1, (1, 0, 1, 1)), (ONE, ONE), (None, 0)):
            self.assertEqual(told(root_of, *pair), error(BadNumber, pair))

    def test_any_values(self):
        rng = random.Random(11)
        things = [thing for thing in any_values(12, 300, ONE, ROOT2) if type(thing) is not int]
        for thing in things + [True, False]:
            number = rng.randint(-10 ** 6, 10 ** 6)
            for pair in ((thing, number), (number, thing), (thing, 0), (thing, rng.choice(things))):
                self.assertEqual(told(root_of, *pair), error(BadNumber, pair))
        for thing in EDGES:
            self.assertEqual(told(root_of, thing, 0), error(BadNumber, (thing, 0)))


class ByName(unittest.TestCase):
    def test_position_and_name(self):
        number, bad = (1, 2, 3, 5), (2, 0, 2, 1)
        for thing in (number, bad):
            self.assertEqual(is_number(thing=thing), is_number(thing))
        self.assertEqual(number_of(p=2, q=4, s=-6, d=8), (-1, -4, 3, 2))
        self.assertEqual(number_of(d=8, s=-6, q=4, p=2), (-1, -4, 3, 2))
        self.assertEqual(number_of(2, 4, d=8, s=-6), (-1, -4, 3, 2))
        self.assertEqual(told(number_of, d=None, p=1, s=2, q=3), error(BadNumber, (1, 3, 2, None)))
        self.assertEqual(root_of(top=8, bottom=9), (0, 2, 3, 2))
        self.assertEqual(root_of(bottom=9, top=8), (0, 2, 3, 2))
        self.assertEqual(told(root_of, bottom=0, top=8), error(BadNumber, (8, 0)))
        for call in BINARY:
            for one, other in ((ONE, number), (number, ONE), (bad, None), (number, bad), (ROOT2, ROOT3)):
                wanted = arithmetic_by_words(call, one, other)
                self.assertEqual(told(call, one=one, other=other), wanted)
                self.assertEqual(told(call, other=other, one=one), wanted)
                self.assertEqual(told(call, one, other=other), wanted)

    def test_the_same_call_gives_the_same(self):
        for _ in range(3):
            self.assertEqual(number_of(1, 1, 1, 72), (1, 6, 1, 2))
            self.assertEqual(root_of(72, 1), (0, 6, 1, 2))
            self.assertEqual(told(plus, ROOT2, ROOT3), error(OtherRoot, ROOT3))


if __name__ == "__main__":
    unittest.main()
