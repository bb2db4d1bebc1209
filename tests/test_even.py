"""Point [6.3]: the rule of the even places and its formulas."""

import random
import unittest
from fractions import Fraction as F

from tests.rule_words import Made, keeps_by_words, solves_by_words, some_made, value
from tests.sample_rules import APART, LAID_WITH_B, LAID_WITHOUT_B, NOTHING, PAIRS, STEADY, WITH
from tests.support import EDGES, NIL, ONE, answer, any_values, error, told, whole
from tests.surds import surd, surds
from tests.test_rules import NO_RULES
from tests.verdict_words import Even, Judge, both_within, laid_made, small_made
from twicestep.errors import BadRule, NoFormula, ZeroMiddle
from twicestep.formulas import formula_place, formula_row, is_formula
from twicestep.rules import first_place, is_rule, keeps, row
from twicestep.verdict import even_formula, even_rule, formula_holds, judge_verdict

LESS, TWO = (-1, 0, 1, 1), (2, 0, 1, 1)
X = (NIL, ONE)


class EvenRule(unittest.TestCase):
    def check(self, made):
        self.assertEqual(told(even_rule, made.rule), answer(Even(made).rule), made.rule)

    def test_numbers_alone(self):
        # A is a a b, B is 2 a b c - b b b, C is b c c.
        self.assertEqual(told(even_rule, ((TWO,), (whole(3),), (whole(5),))),
                         answer(((whole(12),), (whole(33),), (whole(75),))))
        self.assertEqual(told(even_rule, ((LESS,), (ONE,), ((1, 0, 2, 1),))),
                         answer(((ONE,), (whole(-2),), ((1, 0, 4, 1),))))

    def test_0_in_the_middle(self):
        # 2 a b c is b b b.
        self.assertEqual(told(even_rule, ((ONE,), (TWO,), (TWO,))), answer(((TWO,), (), (whole(8),))))
        self.assertEqual(told(even_rule, ((ONE,), (LESS,), ((1, 0, 2, 1),))),
                         answer(((LESS,), (), ((-1, 0, 4, 1),))))

    def test_0_among_the_numbers(self):
        # B is n - n (n + 1) (n + 2) + n + 2, that is 2 - 3 n n - n n n, with n = 2 m.
        self.assertEqual(told(even_rule, ((ONE,), X, (ONE,))),
                         answer(((NIL, TWO), (TWO, NIL, whole(-12), whole(-8)), (TWO, TWO))))
        # A is n (n + 1), B is - 2 n n n - 5 n n - 3 n, C is n n (n + 1) (n + 1).
        self.assertEqual(told(even_rule, ((LESS, ONE), (ONE,), (NIL, NIL, LESS))),
                         answer(((NIL, TWO, whole(4)), (NIL, whole(-6), whole(-20), whole(-16)),
                                 (NIL, NIL, whole(4), whole(16), whole(16)))))

    def test_many(self):
        rng = random.Random(301)
        for made in [small_made(rng, 2, with_b=1) for _ in range(60)] + [laid_made(rng) for _ in range(30)]:
            self.check(made)
        for _ in range(150):
            made = some_made(rng, 2)
            if made.b is not None:
                self.check(made)

    def test_degree_3_and_nine_digits(self):
        rng = random.Random(302)
        for _ in range(20):
            made = some_made(rng, 3)
            if made.b is not None:
                self.check(made)
        self.check(Made([F(997, 1000), F(-999, 991)], [F(1000, 999), 0], [F(-3, 1000), F(1, 991)],
                        (F(997, 7), F(-997, 11), F(-997, 13))))

    def test_its_rows_are_those_at_even_places(self):
        rng = random.Random(303)
        for _ in range(60):
            made = some_made(rng, 2)
            if made.b is None:
                continue
            roots = [root for root in made.a + made.b + made.c if root.denominator == 1]
            start = 2 * max([0] + [int(root) + 1 for root in roots]) + 2
            numbers = row(made.rule, start, (rng.randint(-5, 5), 1, 3, 5), (rng.randint(-5, 5), 2, 1, 5), 11)
            self.assertTrue(keeps_by_words(even_rule(made.rule), start // 2, numbers[::2]))
            self.assertFalse(keeps_by_words(even_rule(made.rule), start // 2, numbers[:8:2] + (numbers[7],)))

    def test_zero_middle(self):
        for made in LAID_WITHOUT_B:
            self.assertEqual(told(even_rule, made.rule), error(ZeroMiddle, made.rule))
            self.assertEqual(told(even_formula, made.rule), error(ZeroMiddle, made.rule))
        for rule in (((ONE,), (), (ONE,)), (X, (), X), ((ONE,), (), (LESS,))):
            self.assertEqual(told(even_rule, rule), error(ZeroMiddle, rule))
            self.assertEqual(told(even_formula, rule), error(ZeroMiddle, rule))


class EvenFormula(unittest.TestCase):
    def check(self, made):
        formula = even_formula(made.rule)
        self.assertIs(is_formula(formula), True)
        self.assertIs(type(formula), tuple)
        triple = even_rule(made.rule)
        self.assertTrue(solves_by_words(triple, formula), made.rule)
        # A row of the rule: the formula's at even places, and what the rule asks for at odd ones.
        a, b, c = [surds(polynomial) for polynomial in made.rule]
        zeros = [int(root) for root in made.b if root.denominator == 1]
        start = max([first_place(made.rule), formula_place(formula)] + [root + 1 for root in zeros] + [0])
        even = [surd(number) for number in formula_row(formula, start, 6)]
        found = []
        for at, number in enumerate(even[:-1]):
            n = 2 * start + 2 * at
            found += [number, -(value(a, n) * even[at + 1] + value(c, n) * number) / value(b, n)]
        self.assertTrue(keeps(made.rule, 2 * start, tuple(number.number() for number in found)))

    def test_where_there_is_one(self):
        for made in LAID_WITH_B + [each for each in WITH if each.b is not None and both_within(each)]:
            self.check(made)

    def test_many(self):
        rng = random.Random(311)
        counts = {True: 0, False: 0}
        for made in [laid_made(rng) for _ in range(25)] + [small_made(rng, 1, with_b=1) for _ in range(40)]:
            if not both_within(made, 6, 30):
                continue
            wanted = Judge(Even(made)).gives_formulas()
            counts[wanted] += 1
            if wanted:
                self.check(made)
            else:
                self.assertEqual(told(even_formula, made.rule), error(NoFormula, made.rule))
        self.assertGreater(min(counts.values()), 15)

    def test_no_formula(self):
        for made in NOTHING:
            self.assertEqual(told(even_formula, made.rule), error(NoFormula, made.rule))

    def test_where_the_rule_of_the_even_places_is_a_rule(self):
        many = 0
        for made in LAID_WITH_B + [APART, PAIRS, STEADY] + NOTHING:
            triple = even_rule(made.rule)
            if is_rule(triple):
                reply = judge_verdict(made.rule)
                if reply[0] != "formula":
                    self.assertIs(formula_holds(triple, reply[2]), True)
                    many += 1
        self.assertGreater(many, 1)


class Errors(unittest.TestCase):
    def test_bad_rule(self):
        for bad in NO_RULES + EDGES + [((ONE,), (), ()), ((), (), (ONE,)), [(ONE,), (), (ONE,)]]:
            self.assertEqual(told(even_rule, bad), error(BadRule, bad))
            self.assertEqual(told(even_formula, bad), error(BadRule, bad))

    def test_bad_rule_of_any_value(self):
        for thing in any_values(312, 200, APART.rule, PAIRS.rule, LAID_WITHOUT_B[0].rule):
            if not is_rule(thing):
                self.assertEqual(told(even_rule, thing), error(BadRule, thing))
                self.assertEqual(told(even_formula, thing), error(BadRule, thing))


class ByName(unittest.TestCase):
    def test_position_and_name(self):
        for rule in [APART.rule, PAIRS.rule, STEADY.rule] + [made.rule for made in LAID_WITHOUT_B] + NO_RULES:
            for call in (even_rule, even_formula):
                self.assertEqual(told(call, rule=rule), told(call, rule))
                self.assertEqual(told(call, rule), told(call, rule))


if __name__ == "__main__":
    unittest.main()
