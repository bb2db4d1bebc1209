"""Part 4 and formulas.py."""

import random
import unittest
from fractions import Fraction

from tests.rule_words import (Made, alike_by_words, formula_by_words, formula_row_by_words, kernel, lines_by_words,
                              multiplied_formula, multiplied_rule, powers_of, solves_by_words, with_factor, with_number,
                              without_factor)
from tests.support import (EDGES, NIL, ONE, ROOT2, ROOT3, answer, any_values, error, nested, number_of_pair, told,
                           whole)
from tests.surds import Surd, multiplied, numbers_of, surd, surds, value, with_roots
from twicestep.errors import BadCount, BadFormula, BadPlace, BadRule
from twicestep.formulas import are_alike, formula_row, is_formula, is_formula_of
from twicestep.rules import first_place, is_rule, keeps

LESS, HALF, TWO, GOLDEN = (-1, 0, 1, 1), (1, 0, 2, 1), (2, 0, 1, 1), (1, 1, 2, 5)
X = (NIL, ONE)
APART = ((ONE,), (LESS, LESS), (LESS, LESS))
STEADY = ((ONE,), (LESS,), (LESS,))
DOUBLE = ((ONE,), (whole(-2),), (ONE,))
FACTORIAL = (ONE, (((-1, 1), 1),), (ONE,))
OTHERWISE = (ONE, (((0, 1), 1),), X)
CONSTANT = (ONE, (), (ONE,))
HUGE = 10 ** 40 - 1
FORMULAS = [FACTORIAL, OTHERWISE, CONSTANT, (GOLDEN, (), (ONE,)), (ROOT2, (((1, 2), -3), ((2, 1), 6)), (ROOT2, ONE)),
            (HALF, (((-7, 3), 1), ((0, 1), -1), ((5, 2), HUGE)), (NIL, HALF, (1, 2, 3, -5)))]
NO_FORMULAS = [None, (), [], list(FACTORIAL), (ONE, ()), (ONE, (), (ONE,), ()), (NIL, (), (ONE,)), (ONE, (), ()),
               (ONE, [], (ONE,)), (ONE, (), [ONE]), (ROOT2, (), (ROOT3,)), (ONE, (((0, 1), 0),), (ONE,)),
               (ONE, (((1, 1), 1), ((0, 1), 1)), (ONE,)), APART, True, 0, "formula"]


def some_exponents(rng, many=3, size=2, kinds=(1, 1, 2, 3)):
    found = {}
    for _ in range(rng.randint(0, many)):
        bottom = rng.choice(kinds)
        found[Fraction(rng.randint(-6, 6), bottom)] = rng.choice([-1, 1]) * rng.randint(1, size)
    return found


def some_number(rng, d=1):
    a, b = [Fraction(rng.choice([-1, 1]) * rng.randint(1, 9), rng.randint(1, 5)) for _ in range(2)]
    return number_of_pair(a, b * rng.randint(0, 1) * (d != 1), d)


def some_formula(rng, degree=4, many=3, size=3):
    d = rng.choice([1, 1, 2, -1, 5])
    polynomial = [some_number(rng, d) if rng.random() < 0.8 else NIL for _ in range(rng.randint(0, degree))]
    polynomial.append(some_number(rng, d))
    return some_number(rng, d), powers_of(some_exponents(rng, many, size)), tuple(polynomial)


def otherwise(rng, formula):
    """A formula alike, written otherwise."""
    for _ in range(rng.randint(0, 3)):
        root = Fraction(rng.randint(-6, 6), rng.choice([1, 1, 2, 3]))
        for tried in [Fraction(k, 2) for k in range(-9, 10)]:
            if value(surds(formula[2]), tried) == 0 and rng.random() < 0.7:
                formula = without_factor(formula, tried)
        formula = with_factor(formula, root)
        if rng.random() < 0.3:
            formula = without_factor(formula, root)
    d = [number[3] for number in formula[2] + formula[:1] if number[1]]
    return with_number(formula, some_number(rng, d[0] if d else rng.choice([1, 2, -3])))


def spoilt(rng, formula):
    """A formula that differs in the base, in a power, or in a number of the polynomial."""
    base, powers, polynomial = formula
    way = rng.randrange(4)
    if way == 0:
        return (-surd(base)).number(), powers, polynomial
    if way == 1 and powers:
        at = rng.randrange(len(powers))
        root, exponent = powers[at]
        return base, powers[:at] + ((root, exponent + (2 if exponent == -1 else 1)),) + powers[at + 1:], polynomial
    if way == 2 and len(polynomial) > 1:
        at = rng.randrange(len(polynomial) - 1)
        return base, powers, polynomial[:at] + ((surd(polynomial[at]) + 1).number(),) + polynomial[at + 1:]
    return base, powers, numbers_of(multiplied(surds(polynomial), with_roots([rng.randint(-9, 9)])))


def rules_with_formulas():
    """Pairs of a rule and a list of formulas of it, no two alike.

    The last ones are 2 y(n + 2) = (n + 3 - x) y(n + 1) - (n + 1) y(n), which a polynomial of degree x keeps, and
    (n + 2) y(n + 2) = 2 x (n + 1 + l) y(n + 1) - (n + 2 l) y(n), with bases and polynomials with roots.
    """
    found = [(APART, [FACTORIAL]), (STEADY, [(GOLDEN, (), (ONE,)), ((1, -1, 2, 5), (), (ONE,))]),
             (DOUBLE, [CONSTANT, (ONE, (), X), (ONE, (), (ROOT2, ONE)), (ONE, (), ((1, 1, 3, -7), TWO))]),
             (((ONE,), (), (whole(-2),)), [(ROOT2, (), (ONE,)), ((0, -1, 1, 2), (), (ONE,))]),
             (((ONE,), (), (ONE,)), [((0, 1, 1, -1), (), (ONE,)), ((0, -1, 1, -1), (), (ONE,))]),
             (((ONE,), (whole(-3),), (TWO,)), [CONSTANT, (TWO, (), (ONE,))]),
             (((ONE,), (), (NIL, LESS, LESS)), [(ONE, (((0, 1), 1),), (ONE,)), (LESS, (((0, 1), 1),), (ONE,))])]
    mades = [Made([], [x - 3], [-1], (2, -1, 1)) for x in (1, 2, 3, 5, 14)]
    mades += [Made([-2], [-1 - l], [-2 * l], (1, -2 * x, 1)) for l, x in ((2, 2), (3, 3), (5, Fraction(1, 2)))]
    for made in mades:
        found.append((made.rule, [(line.base.number(), line.powers, numbers_of(polynomial))
                                  for line in lines_by_words(made) for degree in line.degrees()
                                  for polynomial in kernel(line, degree)]))
    return found


class IsFormula(unittest.TestCase):
    def is_one(self, *things):
        for thing in things:
            self.assertIs(is_formula(thing), True, thing)

    def is_none(self, *things):
        for thing in things:
            self.assertIs(is_formula(thing), False, thing)

    def test_formulas(self):
        self.is_one(*FORMULAS)
        self.is_one(((0, 1, 1, -1), (), (ONE,)), (LESS, (), (ONE,) * 15), (ONE, (((0, 1), -1),), (ROOT3,) * 15))

    def test_none(self):
        self.is_none(*NO_FORMULAS)

    def test_base_is_a_number_other_than_zero(self):
        self.is_none((NIL, (), (ONE,)))
        for bad in ((2, 0, 2, 1), [1, 0, 1, 1], 1, None, True, (), (ONE,), (True, 0, 1, 1), (0, 1, 1, 12),
                    (0, 1, 1, 10 ** 12 + 1), (0, False, 1, 1), (0, 0, 2, 1)):
            self.is_none((bad, (), (ONE,)), (bad, (((0, 1), 1),), X))

    def test_powers_ascend_as_fractions(self):
        self.is_one((ONE, (((1, 3), 1), ((1, 2), 1)), (ONE,)), (ONE, (((-1, 2), 1), ((-1, 3), 1), ((0, 1), 1)), (ONE,)))
        self.is_one((ONE, (((3, 7), 2), ((2, 3), 1), ((1, 1), -2), ((9, 8), 5)), (ONE,)))
        self.is_none((ONE, (((1, 2), 1), ((1, 3), 1)), (ONE,)), (ONE, (((-1, 3), 1), ((-1, 2), 1)), (ONE,)),
                     (ONE, (((1, 1), 1), ((2, 3), 1)), (ONE,)), (ONE, (((0, 1), 1), ((-1, 1), 1)), (ONE,)),
                     (ONE, (((0, 1), 1), ((2, 1), 1), ((1, 1), 1)), (ONE,)),
                     (ONE, (((2, 1), 1), ((0, 1), 1), ((1, 1), 1)), (ONE,)))

    def test_no_fraction_twice(self):
        self.is_none((ONE, (((0, 1), 1), ((0, 1), 1)), (ONE,)), (ONE, (((0, 1), 1), ((0, 1), 2)), (ONE,)),
                     (ONE, (((0, 1), -1), ((1, 2), 1), ((1, 2), 3), ((1, 1), 1)), (ONE,)))

    def test_fraction_pairs(self):
        for bad in ((2, 2), (0, 2), (4, 6), (1, 0), (1, -1), (0, 0), (-1, -1), [0, 1], (0,), (0, 1, 1), (True, 1),
                    (0, True), (False, 1), (None, 1), 0, None, "01", (), ((0, 1),), (1.5, 1)):
            self.is_none((ONE, ((bad, 1),), (ONE,)))

    def test_exponents(self):
        for exponent in (1, -1, 6, -6, 7, HUGE, -HUGE):
            self.is_one((ONE, (((0, 1), exponent),), (ONE,)))
        for bad in (0, True, False, None, "1", (1,), [1], (), (1, 1)):
            self.is_none((ONE, (((0, 1), bad),), (ONE,)), (ONE, (((0, 1), 1), ((1, 1), bad)), (ONE,)))

    def test_powers_are_a_tuple_of_pairs(self):
        for bad in ([], [((0, 1), 1)], {(0, 1): 1}, None, "", 0, False, ((0, 1), 1), (((0, 1),),), (((0, 1), 1, 1),),
                    ([(0, 1), 1],), ((),), (None,), (((0, 1), 1), None), (((0, 1), 1), [(1, 1), 1])):
            self.is_none((ONE, bad, (ONE,)))

    def test_polynomial_other_than_0(self):
        for bad in ((), (NIL,), (ONE, NIL), [], [ONE], ONE, None, 0, "", (None,), ((2, 0, 2, 1),), {}, (ROOT2, ROOT3),
                    ((True, 0, 1, 1),), ((0, 1, 1, 4),)):
            self.is_none((ONE, (), bad), (ROOT2, (((0, 1), 1),), bad))

    def test_numbers_and_base_go_together(self):
        self.is_one((ROOT2, (), (ROOT2,)), (ROOT2, (), (ONE, ROOT2, ONE)), (ROOT2, (), (ONE,)), (ONE, (), (ROOT2, ONE)),
                    ((1, 1, 1, 2), (), ((3, -1, 1, 2), NIL, ROOT2)))
        self.is_none((ROOT2, (), (ROOT3,)), (ROOT2, (), (ONE, ONE, ROOT3)), (ROOT2, (), (ROOT3, ONE)),
                     (ROOT2, (), (ROOT2, ROOT3)), (ROOT2, (), ((0, 1, 1, -2),)), (ONE, (), (ROOT2, ROOT3)),
                     (ROOT3, (((0, 1), 1),), (ONE, ROOT2, ROOT3)))

    def test_a_triple(self):
        self.is_none(list(FACTORIAL), FACTORIAL[:2], FACTORIAL + ((),), FACTORIAL + FACTORIAL, (FACTORIAL,), nested(12),
                     {0: ONE, 1: (), 2: (ONE,)}, FACTORIAL[::-1], (ONE, (ONE,), ()), ((), ONE, (ONE,)), "abc")

    def test_any_value(self):
        counts = {True: 0, False: 0}
        for thing in any_values(61, 1000, *FORMULAS):
            wanted = formula_by_words(thing)
            self.assertEqual(told(is_formula, thing), answer(wanted), thing)
            counts[wanted] += 1
        self.assertGreater(min(counts.values()), 250)


class AreAlike(unittest.TestCase):
    def check(self, one, other, wanted):
        self.assertEqual(told(are_alike, one, other), answer(wanted), (one, other))
        self.assertEqual(told(are_alike, other, one), answer(wanted), (other, one))

    def test_simple_ones(self):
        self.check(FACTORIAL, OTHERWISE, True)
        self.check(CONSTANT, (ONE, (), (HALF,)), True)
        self.check(CONSTANT, (ONE, (((0, 1), 1), ((1, 1), -1)), (LESS, ONE)), False)
        self.check(CONSTANT, (ONE, (((0, 1), -1), ((1, 1), 1)), (LESS, ONE)), True)
        self.check(CONSTANT, (ONE, (((0, 1), -1), ((1, 1), 1)), (NIL, ONE)), False)
        self.check(CONSTANT, (ONE, (((-1, 1), -1), ((0, 1), 1)), (NIL, ONE)), True)
        self.check((ONE, (), X), CONSTANT, False)
        self.check((ONE, (), X), (ONE, (), (ONE, ONE)), False)
        for formula in FORMULAS:
            self.check(formula, formula, True)

    def test_written_otherwise(self):
        rng = random.Random(62)
        for _ in range(120):
            formula = some_formula(rng)
            other = otherwise(rng, formula)
            self.check(formula, other, True)
            self.check(otherwise(rng, formula), other, True)

    def test_one_part_changed(self):
        rng = random.Random(63)
        counts = {True: 0, False: 0}
        for _ in range(120):
            formula = some_formula(rng)
            other = spoilt(rng, otherwise(rng, formula))
            wanted = alike_by_words(formula, other)
            self.check(formula, other, wanted)
            counts[wanted] += 1
        self.assertGreater(counts[False], 80)

    def test_base_changed(self):
        for base in (LESS, TWO, HALF, ROOT2, (0, -1, 1, 2), (1, 1, 1, 2), (0, 1, 1, -1)):
            self.check(FACTORIAL, (base,) + FACTORIAL[1:], False)
            self.check((base,) + OTHERWISE[1:], (base,) + FACTORIAL[1:], True)
        self.check((ROOT2, (), (ONE,)), ((0, -1, 1, 2), (), (ONE,)), False)

    def test_power_changed(self):
        for powers in ((), (((-1, 1), 2),), (((-1, 1), -1),), (((0, 1), 1),), (((-2, 1), 1),), (((-1, 2), 1),),
                       (((-1, 1), 1), ((0, 1), 1)), (((-1, 1), HUGE),)):
            self.check(FACTORIAL, (ONE, powers, (ONE,)), False)

    def test_number_changed(self):
        polynomial = tuple(whole(k) for k in range(1, 16))
        formula = (HALF, (((1, 2), 6), ((5, 1), -6)), polynomial)
        self.check(formula, formula, True)
        for at in range(15):
            for number in (whole(99), ROOT2, (at + 1, 1, 1, -1)):
                self.check(formula, formula[:2] + (polynomial[:at] + (number,) + polynomial[at + 1:],), False)

    def test_multiplied_by_a_number(self):
        for number in (LESS, HALF, ROOT2, (1, 1, 1, 5), (3, 2, 7, -1)):
            self.check(OTHERWISE, with_number(OTHERWISE, number), True)
            self.check((ONE, (), (ONE, ONE, HALF)), with_number((ONE, (), (ONE, ONE, HALF)), number), True)

    def test_numbers_that_do_not_go_together(self):
        self.check((ONE, (), (ROOT2,)), (ONE, (), (ROOT3,)), True)
        self.check((ONE, (), (NIL, ROOT2)), (ONE, (), (NIL, ROOT3)), True)
        self.check((ONE, (), (ROOT2, ROOT2)), (ONE, (), ((1, 1, 1, 3), (1, 1, 1, 3))), True)
        self.check((ONE, (), (ROOT2, ONE)), (ONE, (), (ROOT3, ONE)), False)
        self.check((ONE, (), (NIL, ROOT2)), (ONE, (), (ONE, ROOT3)), False)
        self.check((ONE, (), (ROOT2, TWO)), (ONE, (), (ROOT3, ONE)), False)
        self.check((ONE, (), (ROOT2, TWO)), (ONE, (), ((0, 1, 1, -2), TWO)), False)
        self.check((ONE, (), (ROOT2, ONE)), (ONE, (), (ROOT3, (0, 1, 1, 3))), False)
        self.check((ROOT2, (), (ONE,)), (ROOT3, (), (ONE,)), False)
        self.check((ROOT2, (), (ROOT2,)), (ROOT3, (), (ROOT3,)), False)
        self.check((ROOT2, (), (ONE,)), (ONE, (), (ROOT3,)), False)
        self.check((ONE, (((0, 1), 1),), (NIL, ROOT2)), with_number(FACTORIAL, ROOT3), True)
        self.check((ONE, (((0, 1), 1),), (ROOT2,)), with_number(FACTORIAL, ROOT3), False)

    def test_many_that_do_not_go_together(self):
        rng = random.Random(64)
        for _ in range(40):
            base, powers, _ = some_formula(rng)
            if base[1]:
                base = HALF
            polynomial = numbers_of(with_roots([Fraction(rng.randint(-5, 5), 2) for _ in range(rng.randint(0, 4))]))
            formula = (base, powers, polynomial)
            one = with_number(with_factor(formula, Fraction(rng.randint(-5, 5))), ROOT2)
            self.check(one, with_number(formula, (2, 1, 3, 3)), True)
            other = spoilt(rng, formula)
            self.check(one, with_number(other, (2, 1, 3, 3)), alike_by_words(formula, other))

    def test_degree_14_and_exponents_of_6(self):
        rng = random.Random(65)
        for d in (1, 2, -7):
            numbers = [some_number(rng, d) for _ in range(9)]
            exponents = {Fraction(k, 2): rng.choice([6, -6]) for k in range(-6, 6)}
            formula = (numbers[0], powers_of(exponents), tuple(numbers))
            for roots in ([0], [1, 1], [Fraction(1, 2)] * 6, [-3, -2, -1, 0, 1, 2], [Fraction(5, 2), -2, 7, 7]):
                other = formula
                for root in roots:
                    other = with_factor(other, Fraction(root))
                self.check(formula, other, True)
                self.check(formula, spoilt(rng, other), False)

    def test_exponents_of_forty_digits(self):
        one = (ONE, (((0, 1), HUGE), ((1, 1), -HUGE)), (ONE,))
        self.check(one, one, True)
        self.check(one, with_number(with_factor(one, Fraction(4)), ROOT2), True)
        self.check(one, CONSTANT, False)
        self.check(one, (ONE, (((0, 1), HUGE - 1), ((1, 1), 1 - HUGE)), (ONE,)), False)
        self.check(one, (ONE, (((0, 1), HUGE - 1), ((1, 1), 1 - HUGE)), (LESS, ONE)), True)

    def test_bad_formula(self):
        for bad in NO_FORMULAS + EDGES:
            for good in FORMULAS[:2]:
                self.assertEqual(told(are_alike, bad, good), error(BadFormula, bad))
                self.assertEqual(told(are_alike, good, bad), error(BadFormula, bad))
            self.assertEqual(told(are_alike, bad, "worse"), error(BadFormula, bad))
            self.assertEqual(told(are_alike, "worse", bad), error(BadFormula, "worse"))

    def test_bad_formula_of_any_value(self):
        for thing in any_values(66, 200, *FORMULAS):
            if not formula_by_words(thing):
                self.assertEqual(told(are_alike, thing, FACTORIAL), error(BadFormula, thing))
                self.assertEqual(told(are_alike, FACTORIAL, thing), error(BadFormula, thing))


class IsFormulaOf(unittest.TestCase):
    def check(self, rule, thing, wanted):
        self.assertEqual(told(is_formula_of, rule, thing), answer(wanted), (rule, thing))

    def test_formulas_of_rules(self):
        rng = random.Random(67)
        for rule, formulas in rules_with_formulas():
            self.assertGreater(len(formulas), 0)
            for formula in formulas:
                self.check(rule, formula, True)
                for _ in range(5):
                    self.check(rule, otherwise(rng, formula), True)

    def test_factors_of_the_polynomial_put_into_the_powers(self):
        # n, n (n + 1) (n + 2) and the like, without a polynomial: more powers than a, b and c have degrees.
        self.check(DOUBLE, (ONE, (((-1, 1), 1), ((0, 1), -1)), (ONE,)), True)
        self.check(DOUBLE, (ONE, (((-1, 2), 1), ((1, 2), -1)), (ONE,)), True)
        self.check(DOUBLE, (ONE, (((-1, 1), 2), ((0, 1), -2)), (ONE,)), False)
        self.check(DOUBLE, (ONE, (((-1, 1), -1), ((0, 1), 1)), (ONE,)), False)
        rule = Made([0], [-1], [-2], (1, -2, 1)).rule
        for k in range(1, 4):
            thing = (ONE, (((-k, 1), 1), ((0, 1), -1)), (ONE,))
            self.check(rule, thing, solves_by_words(rule, thing))
        for root in (1000, -1000, Fraction(1, 1000)):
            self.check(DOUBLE, without_factor((ONE, (), numbers_of(with_roots([root]))), Fraction(root)), True)

    def test_by_the_words(self):
        rng = random.Random(68)
        counts = {True: 0, False: 0}
        for rule, formulas in rules_with_formulas():
            for formula in formulas:
                for _ in range(4):
                    thing = otherwise(rng, formula)
                    if len(thing[2]) < 9:
                        self.assertTrue(solves_by_words(rule, thing))
                        thing = spoilt(rng, thing)
                        wanted = solves_by_words(rule, thing)
                        self.check(rule, thing, wanted)
                        counts[wanted] += 1
        self.assertGreater(counts[False], 60)

    def test_of_rules_multiplied(self):
        rng = random.Random(69)
        many = 0
        for rule, formulas in rules_with_formulas() * 3:
            exponents = some_exponents(rng, 2, 1)
            base = Fraction(rng.choice([-1, 1]) * rng.randint(1, 5), rng.randint(1, 5))
            changed_rule = multiplied_rule(rule, base, exponents)
            self.assertIs(is_rule(changed_rule), True)
            for formula in formulas:
                thing = multiplied_formula(formula, base, exponents)
                self.check(changed_rule, thing, True)
                self.check(changed_rule, otherwise(rng, thing), True)
                self.check(changed_rule, formula, solves_by_words(changed_rule, formula))
                many += 1
        self.assertGreater(many, 40)

    def test_none_of_a_rule(self):
        self.check(APART, CONSTANT, False)
        self.check(APART, (LESS, (((-1, 1), 1),), (ONE,)), False)
        self.check(APART, (ONE, (((0, 1), 1),), (ONE,)), False)
        self.check(APART, (ONE, (((-1, 1), 1),), (ONE, ONE)), False)
        self.check(APART, (ONE, (((-1, 1), -1),), (ONE,)), False)
        self.check(STEADY, (ROOT2, (), (ONE,)), False)
        self.check(STEADY, (GOLDEN, (), X), False)
        self.check(STEADY, (GOLDEN, (), ((1, 1, 1, 5), ONE)), False)
        self.check(((ONE,), (ONE,), (LESS,)), (GOLDEN, (), (ONE,)), False)
        self.check(DOUBLE, (LESS, (), (ONE,)), False)
        self.check(DOUBLE, (ONE, (), (NIL, NIL, ONE)), False)
        self.check(DOUBLE, (ONE, (), (ROOT2, NIL, ONE)), False)

    def test_pairs_of_some_rules_and_formulas(self):
        found = rules_with_formulas()[:8]
        for rule, _ in found:
            for _, formulas in found:
                for formula in formulas:
                    self.check(rule, formula, solves_by_words(rule, formula))

    def test_each_polynomial_counts(self):
        for leads in ((1, -1, -1), (1, -2, -1), (2, -1, -1), (1, -1, -2), (1, 1, -1), (1, -1, 1), (-1, -1, -1)):
            self.check(Made([], [-1], [-1], leads).rule, FACTORIAL, leads == (1, -1, -1))
            self.check(Made([2], [2], [2], leads).rule, CONSTANT, sum(leads) == 0)
        for a, b, c in (([], [-1], []), ([], [], [-1]), ([-1], [-1], [-1]), ([], [0], [-1]), ([], [-1], [0])):
            self.check(Made(a, b, c, (1, -1, -1)).rule, FACTORIAL, False)

    def test_b_is_0(self):
        self.check(((ONE,), (), (LESS,)), CONSTANT, True)
        self.check(((ONE,), (), (LESS,)), (LESS, (), (ONE,)), True)
        self.check(((ONE,), (), (LESS,)), (ONE, (), X), False)
        self.check(((ONE,), (), (LESS,)), (ONE, (((0, 1), 1),), (ONE,)), False)
        self.check(((ONE,), (), (LESS,)), (ROOT2, (), (ONE,)), False)
        self.check(((ONE,), (), (LESS,)), (ONE, (((0, 1), -HUGE), ((1, 1), HUGE), ((2, 1), -HUGE)), (ONE,)), False)

    def test_values_that_are_no_formula(self):
        for bad in NO_FORMULAS + EDGES:
            for rule in (APART, STEADY, DOUBLE):
                self.check(rule, bad, False)

    def test_exponents_of_forty_digits(self):
        for e in (HUGE, -HUGE, 10 ** 20, 1000, -1000):
            for powers in ((((-1, 1), e),), (((0, 1), e), ((1, 1), -e)), (((0, 1), e), ((1, 1), 1 - e)),
                           (((-5, 3), 1 - e), ((-2, 3), e)), (((-1, 1), 1), ((1, 2), e), ((5, 7), -e))):
                for polynomial in ((ONE,), X, (ROOT2, ONE), (ONE,) * 15):
                    for rule in (APART, STEADY, DOUBLE, ((ONE,), (), (LESS,))):
                        self.check(rule, (ONE, powers, polynomial), False)

    def test_long_ones_written_otherwise(self):
        polynomial = numbers_of(with_roots([0] * 60))
        self.check(APART, (ONE, (((-1, 1), -59), ((0, 1), 60)), polynomial), True)
        self.check(APART, (ONE, (((-1, 1), -60), ((0, 1), 61)), polynomial), False)
        self.check(APART, (ONE, (((-1, 1), -58), ((0, 1), 59)), polynomial), False)
        self.check(APART, (ONE, (), (ONE,) * 500), False)

    def test_any_value(self):
        counts = {True: 0, False: 0}
        kinds = [FACTORIAL, OTHERWISE, with_number(FACTORIAL, ROOT2), (ONE, (((-1, 1), 1),), (HALF,))]
        for thing in any_values(70, 500, *kinds):
            wanted = formula_by_words(thing)
            if wanted and all(abs(exponent) < 99 for _, exponent in thing[1]) and len(thing[2]) < 9:
                wanted = solves_by_words(APART, thing)
            elif wanted:
                wanted = None
            if wanted is not None:
                self.check(APART, thing, wanted)
                counts[wanted] += 1
            else:
                self.check(APART, thing, False)
        self.assertGreater(min(counts.values()), 200)

    def test_bad_rule_is_ahead(self):
        for bad in EDGES + [None, (), list(APART), APART + ((),), ((), (ONE,), (ONE,)), (APART[0], (ROOT2,), APART[2])]:
            for thing in (FACTORIAL, None, [], (NIL, (), (ONE,))):
                self.assertEqual(told(is_formula_of, bad, thing), error(BadRule, bad))


class FormulaRow(unittest.TestCase):
    def check(self, formula, start, many):
        wanted = formula_row_by_words(formula, start, many)
        self.assertEqual(told(formula_row, formula, start, many), answer(wanted))
        self.assertEqual(wanted[:1], (ONE,) * min(many, 1))

    def test_simple_ones(self):
        self.assertEqual(formula_row(FACTORIAL, 0, 6), tuple(whole(k) for k in (1, 1, 2, 6, 24, 120)))
        self.assertEqual(formula_row(FACTORIAL, 3, 4), tuple(whole(k) for k in (1, 4, 20, 120)))
        self.assertEqual(formula_row(OTHERWISE, 1, 5), tuple(whole(k) for k in (1, 2, 6, 24, 120)))
        self.assertEqual(formula_row((TWO, (), (ONE, ONE)), 0, 4), tuple(whole(k) for k in (1, 4, 12, 32)))
        self.assertEqual(formula_row((TWO, (), (ONE, ONE)), 1, 3), (ONE, whole(3), whole(8)))
        self.assertEqual(formula_row((HALF, (((0, 1), -1),), (ONE,)), 2, 3), (ONE, (1, 0, 4, 1), (1, 0, 24, 1)))
        self.assertEqual(formula_row((ROOT2, (), (ONE,)), 9, 4), (ONE, ROOT2, TWO, (0, 2, 1, 2)))
        self.assertEqual(formula_row((ONE, (((1, 2), 2),), (ONE,)), 0, 3), (ONE, (1, 0, 4, 1), (1, 0, 16, 1)))

    def test_begins_with_1(self):
        for formula in FORMULAS:
            for start in (3, 10, 1000):
                self.assertEqual(formula_row(formula, start, 1), (ONE,))
                self.assertEqual(formula_row(formula, start, 0), ())

    def test_many(self):
        rng = random.Random(71)
        for _ in range(120):
            # An integer zero is one of the fractions without roots, too: these are at most 9, the last at least 1 / 5.
            self.check(some_formula(rng), rng.choice([47, 48, 999]), rng.choice([0, 1, 2, 3, 8]))

    def test_sixty_numbers(self):
        self.check((GOLDEN, (((-7, 3), 2), ((1, 2), -3)), ((1, 2, 3, 5), ONE, ONE)), 1, 60)
        self.assertEqual(len(formula_row((GOLDEN, (((0, 1), 6),), X), 1000, 60)), 60)

    def test_keeps_the_rule(self):
        rng = random.Random(72)
        for rule, formulas in rules_with_formulas():
            for formula in formulas:
                for start in (first_place(rule) + 20, 40):
                    found = formula_row(formula, start, 8)
                    self.assertIs(keeps(rule, start, found), True)
                    self.assertEqual(found, formula_row(otherwise(rng, formula), start, 8))

    def places(self, formula, least):
        for start in (least, least + 1, least + 900):
            self.assertEqual(told(formula_row, formula, start, 1), answer((ONE,)), (formula, start))
            self.check(formula, start, 3)
        for start in (least - 1, least - 2, 0, -1, -least, True, False, None, str(least), (least,), [least]):
            if type(start) is not int or start < least:
                for many in (3, -1, None):
                    self.assertEqual(told(formula_row, formula, start, many), error(BadPlace, start))

    def test_behind_all_r(self):
        self.places(CONSTANT, 0)
        self.places(FACTORIAL, 0)
        self.places((ONE, (((0, 1), 1),), (ONE,)), 1)
        self.places((ONE, (((0, 1), -1),), (ONE,)), 1)
        self.places((ONE, (((-4, 1), 2), ((3, 1), -1), ((7, 1), 1)), (ONE,)), 8)
        self.places((ONE, (((-4, 1), 2), ((3, 1), -1), ((15, 2), 1)), (ONE,)), 4)
        self.places((ONE, (((1, 2), 2), ((999, 7), -1)), (ONE,)), 0)
        self.places((ONE, (((10 ** 9, 1), 1),), (ONE,)), 10 ** 9 + 1)
        self.places((ONE, (((10 ** 39, 1), -1),), (ONE,)), 10 ** 39 + 1)

    def test_behind_all_zeros(self):
        for roots, least in (([0], 1), ([5], 6), ([-5], 0), ([2, 9, 9, 4], 10), ([-1, -2], 0), ([Fraction(9, 2)], 0),
                             ([Fraction(9, 2), 1], 2), ([10 ** 9 + 7], 10 ** 9 + 8), ([1, 10 ** 39], 10 ** 39 + 1),
                             ([-10 ** 20, 3], 4), (list(range(14)), 14)):
            polynomial = with_roots(roots, Fraction(3, 7))
            self.places((ONE, (), numbers_of(polynomial)), least)
            self.places((HALF, (((-2, 1), -1), ((-1, 2), 3)), numbers_of(polynomial)), least)
            self.places((ONE, (), numbers_of(multiplied(polynomial, [Surd(0, 1, 2)]))), least)
            self.places((ONE, (), numbers_of(multiplied(polynomial, [Surd(0, 1, 2), Surd(1)]))), least)
            self.places((ROOT3, (), numbers_of(multiplied(polynomial, [Surd(1, 1, 3), Surd(2, -1, 3)]))), least)
            self.places((ONE, (), numbers_of(multiplied(polynomial, [Surd(1), Surd(0), Surd(1)]))), least)

    def test_zeros_of_one_part_alone_do_not_count(self):
        # n - 5 + root(2) (n - 7): the parts are zero at 5 and at 7, the polynomial at neither.
        self.places((ONE, (), ((-5, -7, 1, 2), (1, 1, 1, 2))), 0)
        self.places((ONE, (), ((-5, 1, 1, 2), ONE)), 0)
        self.places((ONE, (), (ONE, ROOT2)), 0)
        self.places((ONE, (), ((0, 35, 1, 2), (5, -12, 1, 2), (-1, 1, 1, 2))), 6)

    def test_the_greatest_of_both(self):
        self.places((ONE, (((3, 1), 1),), numbers_of(with_roots([8]))), 9)
        self.places((ONE, (((8, 1), 1),), numbers_of(with_roots([3]))), 9)

    def test_bad_formula_is_ahead(self):
        for bad in NO_FORMULAS + EDGES:
            for start, many in ((0, 3), (-1, 3), (0, -3), (None, None)):
                self.assertEqual(told(formula_row, bad, start, many), error(BadFormula, bad))

    def test_bad_count(self):
        for many in (-1, -10 ** 39, True, False, None, "1", (1,), [1], (), [], {}, ONE):
            self.assertEqual(told(formula_row, FACTORIAL, 0, many), error(BadCount, many))
            self.assertEqual(told(formula_row, OTHERWISE, 0, many), error(BadPlace, 0))

    def test_any_values(self):
        for thing in any_values(73, 200, 3, FACTORIAL):
            if type(thing) is not int or thing < 0:
                self.assertEqual(told(formula_row, FACTORIAL, thing, 3), error(BadPlace, thing))
                self.assertEqual(told(formula_row, FACTORIAL, 0, thing), error(BadCount, thing))
            if not formula_by_words(thing):
                self.assertEqual(told(formula_row, thing, 0, 3), error(BadFormula, thing))


class ByName(unittest.TestCase):
    def test_position_and_name(self):
        for thing in FORMULAS + NO_FORMULAS:
            self.assertEqual(told(is_formula, thing=thing), told(is_formula, thing))
            wanted = told(are_alike, thing, FACTORIAL)
            self.assertEqual(told(are_alike, formula=thing, other=FACTORIAL), wanted)
            self.assertEqual(told(are_alike, other=FACTORIAL, formula=thing), wanted)
            self.assertEqual(told(are_alike, thing, other=FACTORIAL), wanted)
            wanted = told(is_formula_of, APART, thing)
            self.assertEqual(told(is_formula_of, rule=APART, thing=thing), wanted)
            self.assertEqual(told(is_formula_of, thing=thing, rule=APART), wanted)
            self.assertEqual(told(is_formula_of, APART, thing=thing), wanted)
            self.assertEqual(told(is_formula_of, rule=thing, thing=thing), error(BadRule, thing)
                             if not is_rule(thing) else answer(False))
        for formula, start, many in ((FACTORIAL, 3, 4), (OTHERWISE, 0, 4), (None, 3, 4), (FACTORIAL, 3, -4)):
            wanted = told(formula_row, formula, start, many)
            self.assertEqual(told(formula_row, formula=formula, start=start, many=many), wanted)
            self.assertEqual(told(formula_row, many=many, start=start, formula=formula), wanted)
            self.assertEqual(told(formula_row, formula, start, many=many), wanted)

    def test_the_same_call_gives_the_same(self):
        for _ in range(3):
            self.assertEqual(formula_row(FACTORIAL, 0, 4), (ONE, ONE, TWO, whole(6)))
            self.assertIs(are_alike(FACTORIAL, OTHERWISE), True)
            self.assertIs(is_formula_of(APART, OTHERWISE), True)


if __name__ == "__main__":
    unittest.main()
