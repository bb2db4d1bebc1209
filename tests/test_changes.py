"""Part 7 and changes.py."""

import random
import unittest
from fractions import Fraction as F

from tests.rule_words import (Made, alike_by_words, formula_by_words, multiplied_rule, powers_by_words, quotient,
                              row_by_words, some_made, solves_by_words)
from tests.sample_rules import (APART, DOUBLE, ENDLESS, HALF, LAID_WITH_B, LAID_WITHOUT_B, NOTHING, ONLY_ONE, PAIRS,
                                STEADY, TWO_OF_THEM, WITHOUT)
from tests.support import EDGES, NIL, ONE, ROOT2, answer, any_values, error, nested, number_by_words, told, whole
from tests.surds import Surd, later, multiplied, numbers_of, surd, surds, value
from tests.test_formulas import FACTORIAL, NO_FORMULAS, OTHERWISE, otherwise, spoilt
from tests.test_rules import NO_RULES
from tests.verdict_words import both_within, laid_made, small_made, stretched, within
from twicestep.changes import moved, moved_formula, multiplied as multiplied_by, multiplied_formula
from twicestep.changes import turned, turned_formula
from twicestep.errors import BadFactor, BadRule, BadShift, NoFormula
from twicestep.formulas import is_formula_of
from twicestep.rules import is_rule, keeps, row
from twicestep.verdict import formulas, many_formulas, verdict

TWO, LESS = (2, 0, 1, 1), (-1, 0, 1, 1)
HUGE = 10 ** 40 - 1
PLAIN_FACTOR = (TWO, (((0, 1), 1),))
NO_SHIFTS = [None, True, False, "1", "", (), (1,), [1], [], {}, {1: 1}, (0, 1), ONE, (True,)]
NO_FACTORS = [
    None, True, 0, 2, "2", (), [], {}, ONE, (TWO,), (TWO, (), ()), [TWO, ()], (TWO, []), (TWO, None), (TWO, {}),
    ((), TWO), (NIL, ()), (NIL, (((0, 1), 1),)), (ROOT2, ()), ((1, 1, 1, -1), ()), ((1, 1, 2, 5), (((0, 1), 1),)),
    ((2, 0, 2, 1), ()), ((2, 0, 1, 2), ()), ((True, 0, 1, 1), ()), (2, ()), ((2, 1), ()), ([2, 0, 1, 1], ()),
    (TWO, (((1, 1), 1), ((0, 1), 1))), (TWO, (((1, 2), 1), ((1, 3), 1))), (TWO, (((0, 1), 1), ((0, 1), 1))),
    (TWO, (((0, 1), 1), ((0, 1), -1))), (TWO, (((0, 1), 0),)), (TWO, (((0, 1), True),)), (TWO, (((0, 1), None),)),
    (TWO, (((0, 2), 1),)), (TWO, (((2, 4), 1),)), (TWO, (((1, -2), 1),)), (TWO, (((1, 0), 1),)),
    (TWO, (((0, True), 1),)), (TWO, (([0, 1], 1),)), (TWO, ([(0, 1), 1],)), (TWO, [((0, 1), 1)]),
    (TWO, ((0, 1), 1)), (TWO, (((0, 1),),)),
    (TWO, (((0, 1), 1, 1),)), (TWO, (((0, 1, 1), 1),)), (TWO, ((0, 1),)), (TWO, (((0, 1), 1), None)),
    (ONE, (((-1, 1), 1),), (ONE,)), nested(12),
]


def turned_words(polynomial):
    """The polynomial with - n - 2 in the place of n."""
    return stretched(later(polynomial, -2), -1)


def factor_of(base, exponents):
    base = F(base)
    powers = tuple(((root.numerator, root.denominator), exponents[root]) for root in sorted(exponents))
    return ((base.numerator, 0, base.denominator, 1), powers)


def some_exponents(rng, many=3):
    roots = [F(rng.randint(-5, 5), rng.choice([1, 1, 2, 3])) for _ in range(rng.randint(0, many))]
    return {root: rng.choice([1, -1]) for root in roots}


def some_base(rng):
    return F(rng.choice([-3, -2, -1, 1, 2, 5]), rng.choice([1, 2, 3]))


def with_some_formulas():
    """Pairs of a rule and a formula of it, with powers below and above, polynomials, and bases that have a root."""
    rng = random.Random(501)
    found = [(APART.rule, FACTORIAL), (APART.rule, OTHERWISE), (STEADY.rule, ((1, 1, 2, 5), (), (ONE,)))]
    for made in ONLY_ONE + TWO_OF_THEM + ENDLESS:
        for formula in formulas(made.rule):
            base, exponents = some_base(rng), some_exponents(rng)
            triple = multiplied_rule(made.rule, base, exponents)
            found.append((made.rule, otherwise(rng, formula)))
            found += [(triple, each) for each in formulas(triple)[:1]]
    return [(triple, formula) for triple, formula in found if len(formula[2]) < 9]


WITH_FORMULAS = with_some_formulas()


class Moved(unittest.TestCase):
    def check(self, rule, k):
        wanted = tuple(numbers_of(later(surds(polynomial), k)) for polynomial in rule)
        self.assertEqual(told(moved, rule, k), answer(wanted))
        self.assertEqual(told(moved, wanted, -k), answer(rule))

    def test_simple_ones(self):
        self.assertEqual(told(moved, APART.rule, 1), answer(((ONE,), (whole(-2), LESS), (whole(-2), LESS))))
        self.assertEqual(told(moved, APART.rule, -1), answer(((ONE,), (NIL, LESS), (NIL, LESS))))
        self.assertEqual(told(moved, STEADY.rule, 7), answer(STEADY.rule))
        self.assertEqual(told(moved, ((NIL, ONE), (), (NIL, NIL, ONE)), 3),
                         answer(((whole(3), ONE), (), (whole(9), whole(6), ONE))))

    def test_many(self):
        rng = random.Random(511)
        for _ in range(60):
            rule = some_made(rng).rule
            for k in (0, 1, -1, 2, 20, -20, rng.randint(-20, 20)):
                self.check(rule, k)

    def test_far(self):
        for k in (21, -21, 1000, 10 ** 9, -10 ** 12):
            self.check(APART.rule, k)

    def test_rows(self):
        rng = random.Random(512)
        for _ in range(30):
            made = some_made(rng)
            k, start = rng.randint(-10, 20), made.first_place() + 30
            first, second = (rng.randint(1, 9), 0, 1, 1), (rng.randint(1, 9), 2, 1, -1)
            self.assertEqual(row(moved(made.rule, k), start - k, first, second, 9),
                             row(made.rule, start, first, second, 9))

    def test_bad_shift(self):
        for bad in NO_SHIFTS:
            for rule in (APART.rule, LAID_WITHOUT_B[0].rule):
                self.assertEqual(told(moved, rule, bad), error(BadShift, bad))

    def test_bad_shift_of_any_value(self):
        for thing in any_values(513, 200, 1, APART.rule):
            if type(thing) is not int:
                self.assertEqual(told(moved, APART.rule, thing), error(BadShift, thing))

    def test_bad_rule_is_ahead(self):
        for bad in NO_RULES + EDGES:
            for k in (1, None, True, "1"):
                self.assertEqual(told(moved, bad, k), error(BadRule, bad))


class Turned(unittest.TestCase):
    def check(self, rule):
        a, b, c = [surds(polynomial) for polynomial in rule]
        wanted = tuple(numbers_of(turned_words(polynomial)) for polynomial in (c, b, a))
        self.assertEqual(told(turned, rule), answer(wanted))
        self.assertEqual(told(turned, wanted), answer(rule))

    def test_simple_ones(self):
        self.assertEqual(told(turned, APART.rule), answer(((ONE, ONE), (ONE, ONE), (ONE,))))
        self.assertEqual(told(turned, ((NIL, NIL, ONE), (), (whole(3), ONE))),
                         answer(((ONE, LESS), (), (whole(4), whole(4), ONE))))
        self.assertEqual(told(turned, ((ONE,), (whole(-3),), (TWO,))), answer(((TWO,), (whole(-3),), (ONE,))))

    def test_many(self):
        rng = random.Random(521)
        for _ in range(150):
            self.check(some_made(rng).rule)

    def test_rows_read_backwards(self):
        rng = random.Random(522)
        for _ in range(30):
            made = some_made(rng)
            a, b, c = made.polynomials
            start = min([0] + [int(root) - 1 for root in made.a + made.c if root.denominator == 1]) - 3
            # From n = start down: y(n) told by y(n + 1) and y(n + 2). Turned, y(- m) stands at m.
            found = [Surd(rng.randint(1, 9)), Surd(rng.randint(1, 9), 1, 3)]
            for n in range(start, start - 8, -1):
                found.append(-(value(a, n) * found[-2] + value(b, n) * found[-1]) / value(c, n))
            numbers = tuple(number.number() for number in found)
            self.assertTrue(keeps(turned(made.rule), -start - 2, numbers))
            self.assertEqual(numbers, row_by_words(turned(made.rule), -start - 2, numbers[0], numbers[1], 10))

    def test_bad_rule(self):
        for bad in NO_RULES + EDGES:
            self.assertEqual(told(turned, bad), error(BadRule, bad))
        for thing in any_values(523, 200, APART.rule, LAID_WITHOUT_B[0].rule):
            if not is_rule(thing):
                self.assertEqual(told(turned, thing), error(BadRule, thing))


class Multiplied(unittest.TestCase):
    def check(self, rule, base, exponents):
        wanted = multiplied_rule(rule, F(base), exponents)
        self.assertEqual(told(multiplied_by, rule, factor_of(base, exponents)), answer(wanted))
        self.assertIs(is_rule(wanted), True)

    def test_base_alone(self):
        self.assertEqual(told(multiplied_by, APART.rule, (TWO, ())),
                         answer(((ONE,), (whole(-2), whole(-2)), (whole(-4), whole(-4)))))
        for base in (1, -1, F(1, 2), F(-7, 3), 1000):
            for made in (APART, PAIRS, DOUBLE, LAID_WITHOUT_B[2], ONLY_ONE[2]):
                self.check(made.rule, base, {})
        self.assertEqual(multiplied_by(APART.rule, (ONE, ())), APART.rule)

    def test_powers_alone(self):
        # A is n, B is 1: b (n + 1), c n (n + 1).
        self.assertEqual(told(multiplied_by, STEADY.rule, (ONE, (((0, 1), 1),))),
                         answer(((ONE,), (LESS, LESS), (NIL, LESS, LESS))))
        # A is 1, B is n: a n (n + 1), b n.
        self.assertEqual(told(multiplied_by, STEADY.rule, (ONE, (((0, 1), -1),))),
                         answer(((NIL, ONE, ONE), (NIL, LESS), (LESS,))))
        # A is n - 1, B is n: a n (n + 1), b n n, c (n - 1) n.
        self.assertEqual(told(multiplied_by, STEADY.rule, (ONE, (((0, 1), -1), ((1, 1), 1)))),
                         answer(((NIL, ONE, ONE), (NIL, NIL, LESS), (NIL, ONE, LESS))))

    def test_base_and_powers(self):
        self.assertEqual(told(multiplied_by, STEADY.rule, (TWO, (((0, 1), 1),))),
                         answer(((ONE,), (whole(-2), whole(-2)), (NIL, whole(-4), whole(-4)))))

    def test_many(self):
        rng = random.Random(531)
        for _ in range(120):
            self.check(some_made(rng, 2).rule, some_base(rng), some_exponents(rng))

    def test_exponents_of_2_and_3(self):
        for exponents in ({F(0): 2}, {F(1, 2): -2}, {F(0): 3, F(1): -2}, {F(-5, 3): -3, F(2): 2, F(3): 1}):
            self.check(APART.rule, F(2, 3), exponents)
            self.check(LAID_WITHOUT_B[1].rule, -2, exponents)

    def test_rows(self):
        rng = random.Random(532)
        for _ in range(30):
            made, base, exponents = some_made(rng, 2), some_base(rng), some_exponents(rng)
            start = made.first_place() + 10
            found, factor = [], Surd(1)
            for at, number in enumerate(row(made.rule, start, whole(rng.randint(1, 9)), ROOT2, 8)):
                found.append((surd(number) * factor).number())
                factor = factor * Surd(base)
                for root, exponent in exponents.items():
                    factor = factor * Surd(start + at - root) ** exponent
            self.assertTrue(keeps(multiplied_by(made.rule, factor_of(base, exponents)), start, tuple(found)))

    def test_bad_factor(self):
        for bad in NO_FACTORS + EDGES:
            for rule in (APART.rule, LAID_WITHOUT_B[0].rule):
                self.assertEqual(told(multiplied_by, rule, bad), error(BadFactor, bad))

    def test_bad_factor_of_any_value(self):
        counts = {True: 0, False: 0}
        kinds = [factor_of(F(-2, 3), {F(0): 1, F(1, 2): -1, F(5, 2): 1}), PLAIN_FACTOR, (LESS, ())]
        for thing in any_values(533, 500, *kinds):
            wanted = (type(thing) is tuple and len(thing) == 2 and number_by_words(thing[0]) and thing[0][1] == 0
                      and thing[0] != NIL and powers_by_words(thing[1]))
            if not wanted:
                self.assertEqual(told(multiplied_by, APART.rule, thing), error(BadFactor, thing))
            elif all(abs(exponent) < 9 for _, exponent in thing[1]):
                reply = multiplied_rule(APART.rule, F(thing[0][0], thing[0][2]),
                                        {F(*root): exponent for root, exponent in thing[1]})
                self.assertEqual(told(multiplied_by, APART.rule, thing), answer(reply))
            counts[wanted] += 1
        self.assertGreater(min(counts.values()), 250)

    def test_bad_rule_is_ahead(self):
        for bad in NO_RULES + EDGES:
            for factor in (PLAIN_FACTOR, None, (NIL, ())):
                self.assertEqual(told(multiplied_by, bad, factor), error(BadRule, bad))


class Formulas(unittest.TestCase):
    def check(self, rule, formula, top, bottom):
        """Whether it is a formula of the rule with the quotient top / bottom."""
        self.assertTrue(formula_by_words(formula), formula)
        self.assertTrue(solves_by_words(rule, formula), (rule, formula))
        self.assertTrue(is_formula_of(rule, formula))
        above, below = quotient(formula)
        self.assertEqual(multiplied(above, bottom), multiplied(below, top))

    def test_there_are_formulas_of_all_kinds(self):
        found = [formula for _, formula in WITH_FORMULAS]
        self.assertGreater(sum(any(exponent > 0 for _, exponent in powers) for _, powers, _ in found), 15)
        self.assertGreater(sum(any(exponent < 0 for _, exponent in powers) for _, powers, _ in found), 15)
        self.assertGreater(sum(len(polynomial) > 1 for _, _, polynomial in found), 15)
        self.assertGreater(sum(base[1] != 0 for base, _, _ in found), 10)

    def test_moved(self):
        rng = random.Random(541)
        for rule, formula in WITH_FORMULAS:
            for k in (0, 1, -1, 20, -20, rng.randint(-20, 20)):
                top, bottom = quotient(formula)
                self.check(moved(rule, k), moved_formula(rule, formula, k), later(top, k), later(bottom, k))

    def test_turned(self):
        for rule, formula in WITH_FORMULAS:
            top, bottom = [stretched(later(polynomial, -1), -1) for polynomial in quotient(formula)]
            found = turned_formula(rule, formula)
            self.check(turned(rule), found, bottom, top)
            self.assertTrue(alike_by_words(turned_formula(turned(rule), found), formula))

    def test_multiplied(self):
        rng = random.Random(542)
        for rule, formula in WITH_FORMULAS:
            for exponents in ({}, {F(0): 1}, {HALF: -1}, some_exponents(rng)):
                factor = factor_of(some_base(rng), exponents)
                above, below = quotient(factor + ((ONE,),))
                top, bottom = quotient(formula)
                changed = multiplied_by(rule, factor)
                self.check(changed, multiplied_formula(rule, formula, factor), multiplied(top, above),
                           multiplied(bottom, below))

    def test_powers_that_go_away(self):
        factor = (ONE, (((-1, 1), -1),))
        found = multiplied_formula(APART.rule, FACTORIAL, factor)
        self.check(multiplied_by(APART.rule, factor), found, [Surd(1)], [Surd(1)])
        found = multiplied_formula(APART.rule, FACTORIAL, (TWO, (((-1, 1), 1),)))
        self.check(multiplied_by(APART.rule, (TWO, (((-1, 1), 1),))), found, surds((TWO, whole(4), TWO)), [Surd(1)])

    def calls(self, rule, thing):
        return (told(moved_formula, rule, thing, 1), told(turned_formula, rule, thing),
                told(multiplied_formula, rule, thing, PLAIN_FACTOR))

    def test_no_formula(self):
        rng = random.Random(543)
        for made in (APART, STEADY, PAIRS, DOUBLE):
            for bad in NO_FORMULAS + EDGES + [((1, 1, 2, 3), (), (ONE,)), (ONE, (((-2, 1), 1),), (ONE,))]:
                for found in self.calls(made.rule, bad):
                    self.assertEqual(found, error(NoFormula, bad))
        for rule, formula in WITH_FORMULAS[:30]:
            worse = spoilt(rng, formula)
            if not solves_by_words(rule, worse):
                for found in self.calls(rule, worse):
                    self.assertEqual(found, error(NoFormula, worse))

    def test_no_formula_of_any_value(self):
        for thing in any_values(544, 200, FACTORIAL, OTHERWISE):
            if not is_formula_of(APART.rule, thing):
                for found in self.calls(APART.rule, thing):
                    self.assertEqual(found, error(NoFormula, thing))

    def test_the_order_of_the_errors(self):
        for bad in NO_RULES + EDGES:
            for thing in (FACTORIAL, None):
                for found in self.calls(bad, thing):
                    self.assertEqual(found, error(BadRule, bad))
                self.assertEqual(told(moved_formula, bad, thing, None), error(BadRule, bad))
                self.assertEqual(told(multiplied_formula, bad, thing, None), error(BadRule, bad))
        for bad in NO_SHIFTS:
            self.assertEqual(told(moved_formula, APART.rule, FACTORIAL, bad), error(BadShift, bad))
            self.assertEqual(told(moved_formula, APART.rule, None, bad), error(NoFormula, None))
            self.assertEqual(told(moved_formula, PAIRS.rule, FACTORIAL, bad), error(NoFormula, FACTORIAL))
        for bad in NO_FACTORS:
            self.assertEqual(told(multiplied_formula, APART.rule, FACTORIAL, bad), error(BadFactor, bad))
            self.assertEqual(told(multiplied_formula, APART.rule, None, bad), error(NoFormula, None))
            self.assertEqual(told(multiplied_formula, PAIRS.rule, FACTORIAL, bad), error(NoFormula, FACTORIAL))

    def test_long_exponents(self):
        for e in (HUGE, -HUGE):
            thing = (ONE, (((-1, 1), e),), (ONE,))
            for found in self.calls(APART.rule, thing):
                self.assertEqual(found, error(NoFormula, thing))


class WhatStays(unittest.TestCase):
    def changed(self, rng, rule, powers):
        exponents = some_exponents(rng, 1) if powers else {}
        return [moved(rule, rng.randint(-20, 20)), moved(rule, 1), turned(rule), multiplied_by(rule, (LESS, ())),
                multiplied_by(rule, factor_of(some_base(rng), exponents)), turned(moved(rule, -3))]

    def test_how_many_formulas(self):
        rng = random.Random(551)
        mades = WITHOUT + ONLY_ONE[:4] + TWO_OF_THEM[:8] + ENDLESS[:3] + [small_made(rng, 1) for _ in range(40)]
        for made in mades:
            if within(made, 6):
                wanted = many_formulas(made.rule)
                for rule in self.changed(rng, made.rule, True):
                    self.assertEqual(many_formulas(rule), wanted, (made.rule, rule))

    def test_verdict(self):
        rng = random.Random(552)
        counts = {}
        mades = LAID_WITHOUT_B + LAID_WITH_B + NOTHING + ONLY_ONE[:3] + TWO_OF_THEM[:6] + ENDLESS[:2]
        for made in mades + [laid_made(rng) for _ in range(5)] + [small_made(rng, 1) for _ in range(15)]:
            if both_within(made, 6):
                wanted = verdict(made.rule)
                counts[wanted] = counts.get(wanted, 0) + 1
                for rule in self.changed(rng, made.rule, len(made.a) + len(made.c) == 0):
                    self.assertEqual(verdict(rule), wanted, (made.rule, rule))
        self.assertGreater(min(counts["formula"], counts["laid"], counts["nothing"]), 7)


class ByName(unittest.TestCase):
    def check(self, call, **named):
        wanted = told(call, *named.values())
        self.assertEqual(told(call, **named), wanted)
        self.assertEqual(told(call, **{name: named[name] for name in reversed(list(named))}), wanted)

    def test_position_and_name(self):
        for rule in [APART.rule, LAID_WITHOUT_B[0].rule, Made([HALF], [1], [2, 3]).rule] + NO_RULES[:4]:
            self.check(turned, rule=rule)
            for k in (2, None):
                self.check(moved, rule=rule, k=k)
            for factor in (PLAIN_FACTOR, None):
                self.check(multiplied_by, rule=rule, factor=factor)
            for thing in (FACTORIAL, None):
                self.check(turned_formula, rule=rule, thing=thing)
                self.check(moved_formula, rule=rule, thing=thing, k=3)
                self.check(moved_formula, rule=rule, thing=thing, k=None)
                self.check(multiplied_formula, rule=rule, thing=thing, factor=PLAIN_FACTOR)
                self.check(multiplied_formula, rule=rule, thing=thing, factor=None)


if __name__ == "__main__":
    unittest.main()
