"""Part 3 and rules.py."""

import random
import unittest
from fractions import Fraction

from tests.rule_words import Made, keeps_by_words, row_by_words, some_made
from tests.support import (EDGES, NIL, ONE, ROOT2, ROOT3, answer, any_values, changed, error, fraction_number, nested,
                           number_by_words, number_of_pair, some_value, told, whole)
from tests.surds import surds
from twicestep.errors import BadCount, BadNumber, BadPlace, BadRule, OtherRoot
from twicestep.polynomials import is_split
from twicestep.rules import first_place, is_rule, keeps, row, standing

LESS, HALF, TWO = (-1, 0, 1, 1), (1, 0, 2, 1), (2, 0, 1, 1)
X = (NIL, ONE)
UNSPLIT = (ONE, NIL, ONE)
APART = ((ONE,), (LESS, LESS), (LESS, LESS))
STEADY = ((ONE,), (LESS,), (LESS,))
EMPTY_MIDDLE = ((LESS, ONE), (), (ONE,))
RULES = [APART, STEADY, EMPTY_MIDDLE, ((HALF, ONE), (ONE,), (LESS, ONE)), (X, X, X), ((ONE,), (), (ONE,)),
         ((NIL, NIL, NIL, ONE), (NIL, NIL, LESS), (whole(-6), whole(11), whole(-6), ONE))]
NO_RULES = [None, (), [], ((ONE,), (ONE,)), ((ONE,), (ONE,), (ONE,), (ONE,)), list(APART), ((), (ONE,), (ONE,)),
            ((ONE,), (ONE,), ()), (UNSPLIT, (ONE,), (ONE,)), ((ONE,), UNSPLIT, (ONE,)), ((ONE,), (ONE,), UNSPLIT)]
NO_COUNTS = [-1, -10 ** 39, True, False, None, "1", (1,), [1], (), [], {}, {1: 1}, ONE]


def row_pairs(rng):
    """Two numbers that go together."""
    d = rng.choice([1, 1, 2, -1, 5, -30])
    found = []
    for _ in range(2):
        a, b = [Fraction(rng.randint(-9, 9), rng.randint(1, 9)) for _ in range(2)]
        found.append(number_of_pair(a, b * (d != 1) * rng.randint(0, 1), d))
    return found


class IsRule(unittest.TestCase):
    def is_one(self, *things):
        for thing in things:
            self.assertIs(is_rule(thing), True, thing)

    def is_none(self, *things):
        for thing in things:
            self.assertIs(is_rule(thing), False, thing)

    def test_rules(self):
        self.is_one(*RULES)
        self.is_one((X, (ONE, TWO, ONE), (LESS, NIL, ONE)), ((HALF,), (HALF,), (HALF,)), ((LESS,), (), (LESS,)))

    def test_a_and_c_are_not_0(self):
        self.is_none(((), (ONE,), (ONE,)), ((ONE,), (ONE,), ()), ((), (), ()), ((), (), (ONE,)), ((ONE,), (), ()))

    def test_b_may_be_0(self):
        self.is_one(((ONE,), (), (ONE,)), (X, (), X))
        self.is_none(((ONE,), [], (ONE,)), ((ONE,), None, (ONE,)), ((ONE,), 0, (ONE,)), ((ONE,), (NIL,), (ONE,)),
                     ((ONE,), NIL, (ONE,)), ((ONE,), False, (ONE,)), ((ONE,), "", (ONE,)), ((ONE,), {}, (ONE,)))

    def test_each_is_split(self):
        for bad in (UNSPLIT, (whole(-2), NIL, ONE), (ONE, ONE, ONE), (whole(-2), NIL, NIL, ONE),
                    (NIL, ONE, NIL, ONE)):
            self.is_none((bad, (ONE,), (ONE,)), ((ONE,), bad, (ONE,)), ((ONE,), (ONE,), bad), (bad, bad, bad),
                         (bad, (), (ONE,)), ((ONE,), (), bad))

    def test_each_is_plain(self):
        for bad in ((ROOT2,), (ROOT2, ONE), (NIL, ROOT2), ((1, 1, 1, -1),), (ONE, ROOT3), ((0, -1, 1, 2), ROOT2)):
            self.is_none((bad, (ONE,), (ONE,)), ((ONE,), bad, (ONE,)), ((ONE,), (ONE,), bad), (bad, bad, bad))

    def test_each_is_a_polynomial(self):
        for bad in ((NIL,), (ONE, NIL), [ONE], ONE, ((2, 0, 2, 1),), ((True, 0, 1, 1),), ((1, False, 1, 1),),
                    ((1, 0, True, 1),), ((1, 0, 1, True),), ([1, 0, 1, 1],), (1,), None, True, 1, "", "1", {},
                    {ONE: ONE}, ((1, 0, 1),), (((1, 0, 1, 1),),), ((1, 0, -1, 1),), ((1, 0, 1, 2),)):
            self.is_none((bad, (ONE,), (ONE,)), ((ONE,), bad, (ONE,)), ((ONE,), (ONE,), bad))

    def test_a_triple(self):
        self.is_none((), ((ONE,),), ((ONE,), (ONE,)), ((ONE,),) * 4, ((ONE,),) * 5, list(APART), [list(APART)],
                     (APART,), {}, {0: (ONE,), 1: (ONE,), 2: (ONE,)}, None, True, 0, "abc", (APART, APART, APART),
                     APART + ((),), APART + (None,), nested(12))

    def test_exchanged(self):
        self.is_none(((), (ONE,), X), (X, (ONE,), ()))
        self.is_one((X, (), (ONE,)), ((ONE,), X, X), (X, X, (ONE,)))

    def test_many_that_are_made(self):
        rng = random.Random(41)
        for _ in range(150):
            made = some_made(rng)
            self.is_one(made.rule)
            a, b, c = made.rule
            self.is_none((a, b), (a, b, c, c), [a, b, c], (a, list(b), c), (list(a), b, c), (a, b, list(c)),
                         (a + (NIL,), b, c), (a, b + (NIL,), c), (a, b, c + (NIL,)))

    def test_any_value(self):
        counts = {True: 0, False: 0}
        for thing in any_values(42, 700, *RULES):
            wanted = (type(thing) is tuple and len(thing) == 3 and is_split(thing[0]) and is_split(thing[2])
                      and (thing[1] == () or is_split(thing[1])))
            self.assertEqual(told(is_rule, thing), answer(wanted), thing)
            counts[wanted] += 1
        self.assertGreater(min(counts.values()), 200)


class BadRules(unittest.TestCase):
    def test_bad_rule_is_ahead_of_all_others(self):
        for bad in NO_RULES + EDGES:
            self.assertEqual(told(first_place, bad), error(BadRule, bad))
            self.assertEqual(told(row, bad, None, None, None, None), error(BadRule, bad))
            self.assertEqual(told(row, bad, 0, ONE, ONE, 3), error(BadRule, bad))
            self.assertEqual(told(keeps, bad, None, None), error(BadRule, bad))
            self.assertEqual(told(keeps, bad, 0, ()), error(BadRule, bad))

    def test_any_value(self):
        for thing in any_values(43, 300, *RULES):
            if not is_rule(thing):
                self.assertEqual(told(first_place, thing), error(BadRule, thing))
                self.assertEqual(told(row, thing, -1, ROOT2, ROOT3, -1), error(BadRule, thing))
                self.assertEqual(told(keeps, thing, -1, None), error(BadRule, thing))


class FirstPlace(unittest.TestCase):
    def check(self, a, c, wanted, b=(0,)):
        self.assertEqual(told(first_place, Made(a, b, c).rule), answer(wanted), (a, c))

    def test_no_roots(self):
        self.check([], [], 0)
        self.assertEqual(first_place(STEADY), 0)

    def test_integer_roots(self):
        self.check([0], [], 1)
        self.check([], [0], 1)
        self.check([1], [], 2)
        self.check([], [1], 2)
        self.check([5], [3], 6)
        self.check([3], [5], 6)
        self.check([999], [1000], 1001)
        self.check([2, 2, 7], [1, 4, 4], 8)
        self.check([-4, 2, 0], [-1, 1], 3)

    def test_integer_roots_below_0(self):
        self.check([-1], [], 0)
        self.check([], [-1], 0)
        self.check([-5, -1000], [-2, -2, -3], 0)
        self.check([-5, 0], [-2], 1)
        self.check([-5], [-2, 0], 1)

    def test_roots_that_are_no_integers(self):
        self.check([Fraction(5, 2)], [Fraction(999, 7)], 0)
        self.check([Fraction(5, 2), 1], [Fraction(999, 7)], 2)
        self.check([Fraction(-5, 2)], [Fraction(1, 3), 2], 3)
        self.check([Fraction(1, 2)], [Fraction(-1, 2)], 0)

    def test_roots_of_b_do_not_count(self):
        self.check([], [], 0, [5, 6])
        self.check([1], [2], 3, [9, 9, 10])
        self.check([1], [2], 3, None)

    def test_many(self):
        rng = random.Random(44)
        for _ in range(200):
            made = some_made(rng)
            self.assertEqual(told(first_place, made.rule), answer(made.first_place()))


class Row(unittest.TestCase):
    def check(self, rule, start, first, second, many):
        wanted = row_by_words(rule, start, first, second, many)
        self.assertEqual(told(row, rule, start, first, second, many), answer(wanted))
        self.assertEqual(told(keeps, rule, start, wanted), answer(True))
        return wanted

    def test_simple_ones(self):
        self.assertEqual(row(APART, 0, ONE, NIL, 7), tuple(whole(k) for k in (1, 0, 1, 2, 9, 44, 265)))
        self.assertEqual(row(STEADY, 0, NIL, ONE, 9), tuple(whole(k) for k in (0, 1, 1, 2, 3, 5, 8, 13, 21)))
        self.assertEqual(row(STEADY, 7, ROOT2, ONE, 4), (ROOT2, ONE, (1, 1, 1, 2), (2, 1, 1, 2)))
        self.assertEqual(row(((TWO,), (LESS,), (ONE,)), 3, ONE, HALF, 4), (ONE, HALF, (-1, 0, 4, 1), (-3, 0, 8, 1)))

    def test_0_1_and_2_numbers(self):
        for first, second in ((ONE, NIL), (ROOT2, ROOT2), (HALF, (1, 2, 3, -1)), (NIL, NIL)):
            for start in (0, 5, 1000):
                self.assertEqual(row(APART, start, first, second, 0), ())
                self.assertEqual(row(APART, start, first, second, 1), (first,))
                self.assertEqual(row(APART, start, first, second, 2), (first, second))

    def test_the_place_counts(self):
        rule = (X, (LESS, LESS), (ONE,))
        self.assertEqual(row(rule, 1, ONE, ONE, 4), (ONE, ONE, ONE, ONE))
        self.assertEqual(row(rule, 2, ONE, ONE, 4), (ONE, ONE, ONE, ONE))
        self.assertEqual(row(rule, 1, NIL, ONE, 4), (NIL, ONE, TWO, (5, 0, 2, 1)))
        self.assertEqual(row(rule, 2, NIL, ONE, 4), (NIL, ONE, (3, 0, 2, 1), (5, 0, 3, 1)))

    def test_b_is_0(self):
        self.assertEqual(row(EMPTY_MIDDLE, 2, ONE, ROOT2, 6),
                         (ONE, ROOT2, LESS, (0, -1, 2, 2), (1, 0, 3, 1), (0, 1, 8, 2)))

    def test_zeros_only(self):
        self.assertEqual(row(APART, 0, NIL, NIL, 20), (NIL,) * 20)

    def test_many(self):
        rng = random.Random(45)
        for _ in range(150):
            made = some_made(rng)
            start = made.first_place() + rng.choice([0, 0, 1, 2, rng.randint(0, 900)])
            self.check(made.rule, start, *row_pairs(rng), rng.choice([0, 1, 2, 3, 4, rng.randint(5, 25)]))

    def test_sixty_numbers(self):
        rng = random.Random(46)
        for start in (0, 1000):
            made = some_made(rng)
            self.check(made.rule, max(start, made.first_place()), (1, 2, 3, 5), (7, -1, 2, 5), 60)
        self.assertEqual(len(row(STEADY, 1000, ONE, ONE, 60)), 60)
        self.assertEqual(row(STEADY, 0, ONE, ONE, 60)[-1], whole(1548008755920))

    def test_nine_digits(self):
        made = Made([Fraction(997, 1000), Fraction(-999, 991)], [Fraction(1000, 999)], [Fraction(1, 1000)],
                    (Fraction(997, 7), Fraction(-7919, 104729), Fraction(3, 99991)))
        self.check(made.rule, 1000, ONE, (0, 1, 1, 999999999989), 12)


class RowErrors(unittest.TestCase):
    def test_bad_place(self):
        rule = Made([4], [9], [2]).rule
        for start in (4, 0, -1, -5, -10 ** 39, True, False, None, "5", (5,), [5], (), {}, ONE, {5: 5}):
            for rest in ((ONE, ONE, 3), (None, None, None), (ROOT2, ROOT3, -1), (ONE, ROOT2, -1)):
                self.assertEqual(told(row, rule, start, *rest), error(BadPlace, start))
            self.assertEqual(told(keeps, rule, start, (ONE,)), error(BadPlace, start))
            self.assertEqual(told(keeps, rule, start, None), error(BadPlace, start))
        for start in (5, 6, 1000):
            self.assertEqual(row(rule, start, ONE, ONE, 1), (ONE,))
        for start in (-1, True, False, None):
            self.assertEqual(told(row, STEADY, start, ONE, ONE, 3), error(BadPlace, start))
        self.assertEqual(row(STEADY, 0, ONE, ONE, 1), (ONE,))

    def test_first_bad_number(self):
        for bad in (None, 1, (1, 0, 1), [1, 0, 1, 1], (2, 0, 2, 1), (True, 0, 1, 1), (0, 1, 1, 12), (ONE,), ()):
            for good in (ONE, ROOT2):
                for many in (3, -1, None):
                    self.assertEqual(told(row, APART, 0, bad, good, many), error(BadNumber, bad))
                    self.assertEqual(told(row, APART, 0, good, bad, many), error(BadNumber, bad))
            for worse in ("worse", (0, 2, 2, 3)):
                self.assertEqual(told(row, APART, 0, bad, worse, 3), error(BadNumber, bad))
                self.assertEqual(told(row, APART, 0, worse, bad, 3), error(BadNumber, worse))

    def test_other_root(self):
        for first, second in ((ROOT2, ROOT3), (ROOT3, ROOT2), (ROOT2, (0, 1, 1, -2)), ((1, 1, 1, 6), (1, 1, 2, 5))):
            for many in (0, 3, -1, None, True):
                self.assertEqual(told(row, APART, 0, first, second, many), error(OtherRoot, second))

    def test_bad_count(self):
        for many in NO_COUNTS:
            self.assertEqual(told(row, APART, 0, ONE, ROOT2, many), error(BadCount, many))

    def test_any_values(self):
        rng = random.Random(47)
        for thing in any_values(48, 150, 5, ONE, ROOT2):
            if type(thing) is not int or thing < 0:
                self.assertEqual(told(row, APART, thing, ONE, ONE, 3), error(BadPlace, thing))
                self.assertEqual(told(keeps, APART, thing, (ONE,)), error(BadPlace, thing))
                self.assertEqual(told(row, APART, 0, ONE, ONE, thing), error(BadCount, thing))
            if not number_by_words(thing):
                self.assertEqual(told(row, APART, 0, thing, rng.choice([ONE, thing]), 3), error(BadNumber, thing))
                self.assertEqual(told(row, APART, 0, ONE, thing, 3), error(BadNumber, thing))


class Keeps(unittest.TestCase):
    def test_rows_with_one_number_changed(self):
        rng = random.Random(49)
        for _ in range(25):
            made = some_made(rng)
            start = made.first_place() + rng.randint(0, 9)
            found = row(made.rule, start, *row_pairs(rng), rng.randint(3, 9))
            self.assertIs(keeps(made.rule, start, found), True)
            for at in range(len(found)):
                for other in (whole(10 ** 6), NIL, ROOT3, (found[at][0] + found[at][2],) + found[at][1:]):
                    thing = found[:at] + (other,) + found[at + 1:]
                    self.assertIs(keeps(made.rule, start, thing), keeps_by_words(made.rule, start, thing), thing)

    def test_one_number_changed_is_seen_at_each_place(self):
        for many in range(3, 12):
            found = row(APART, 3, ONE, whole(5), many)
            for at in range(many):
                self.assertIs(keeps(APART, 3, found[:at] + (whole(-77),) + found[at + 1:]), False)

    def test_the_place_counts(self):
        found = row(APART, 3, ONE, ONE, 5)
        self.assertEqual([keeps(APART, start, found) for start in (2, 3, 4)], [False, True, False])
        self.assertEqual([keeps(STEADY, start, row(STEADY, 3, ONE, ONE, 5)) for start in (2, 3, 4)], [True] * 3)

    def test_shorter_than_three(self):
        for thing in ((), (NIL,), (ONE,), (ROOT2,), (ONE, NIL), (ROOT2, (1, 5, 7, 2)), (ONE, ROOT3), (NIL, NIL)):
            for rule in RULES:
                self.assertIs(keeps(rule, 100, thing), True)
        for thing in ((None,), (1,), ((2, 0, 2, 1),), (ROOT2, ROOT3), (ONE, None), (None, ONE), ([1, 0, 1, 1],),
                      [ONE], [], {}, None, True, 0, "", ONE, ((True, 0, 1, 1),), ((0, 1, 1, 12),), (ONE, (NIL,))):
            for rule in RULES:
                self.assertIs(keeps(rule, 100, thing), False)

    def test_numbers_that_do_not_go_together(self):
        rule = ((ONE,), (LESS,), (NIL, ONE))
        self.assertIs(keeps(rule, 1, (ROOT2, ROOT3, ROOT3, NIL)), False)
        # Only neighbours meet in the rule.
        self.assertIs(keeps(((ONE,), (), (ONE,)), 0, (ROOT2, ROOT3, (0, -1, 1, 2), (0, -1, 1, 3))), False)
        self.assertIs(keeps(((ONE,), (), (ONE,)), 0, (ROOT2, ROOT2, (0, -1, 1, 2), (0, -1, 1, 2))), True)
        self.assertIs(keeps(((ONE,), (LESS,), (ONE,)), 0, (NIL,) * 6 + (ROOT2, ROOT3)), False)

    def test_lists(self):
        found = row(APART, 0, ONE, ONE, 6)
        self.assertIs(keeps(APART, 0, list(found)), False)
        self.assertIs(keeps(APART, 0, tuple(list(each) for each in found)), False)
        self.assertIs(keeps(APART, 0, found[:3] + (list(found[3]),) + found[4:]), False)
        self.assertIs(keeps(APART, 0, (found,)), False)

    def test_long_ones(self):
        self.assertIs(keeps(APART, 0, (NIL,) * 599), True)
        self.assertIs(keeps(APART, 0, (NIL,) * 598 + (ONE,)), False)
        self.assertIs(keeps(STEADY, 1000, row(STEADY, 0, ONE, ROOT2, 60)), True)

    def test_any_value(self):
        counts = {True: 0, False: 0}
        rows = [row(STEADY, 0, ONE, ROOT2, 5), (NIL,) * 4, row(STEADY, 0, ONE, ONE, 3), row(STEADY, 0, TWO, HALF, 4)]
        for thing in any_values(50, 700, *rows):
            wanted = keeps_by_words(STEADY, 4, thing)
            self.assertEqual(told(keeps, STEADY, 4, thing), answer(wanted), thing)
            counts[wanted] += 1
        self.assertGreater(min(counts.values()), 200)


class Standing(unittest.TestCase):
    def check(self, one, other):
        y, z = surds(one), surds(other)
        wanted = tuple((y[k] * z[k + 1] - y[k + 1] * z[k]).number() for k in range(len(y) - 1))
        self.assertEqual(told(standing, one, other), answer(wanted))
        return wanted

    def test_simple_ones(self):
        self.assertEqual(standing((ONE, NIL), (NIL, ONE)), (ONE,))
        self.assertEqual(standing((NIL, ONE), (ONE, NIL)), (LESS,))
        self.assertEqual(standing((ONE, TWO, whole(3)), (whole(4), whole(7), whole(5))), (LESS, whole(-11)))
        self.assertEqual(standing((ROOT2, ONE), (ONE, ROOT2)), (ONE,))

    def test_length_1(self):
        for one in (NIL, ONE, ROOT2):
            self.assertEqual(standing((one,), (ROOT2,)), ())

    def test_exchanged(self):
        rng = random.Random(51)
        for _ in range(40):
            one, other = [tuple(row_pairs(rng)[0] for _ in range(5)) for _ in range(2)]
            d = [each[3] for each in one + other if each[1]]
            if len(set(d)) < 2:
                self.assertEqual(self.check(one, other), tuple((-p, -q, s, e) for p, q, s, e in self.check(other, one)))

    def test_a_row_and_a_multiple_of_it(self):
        for factor in (ONE, LESS, HALF, NIL, ROOT2):
            one = row(APART, 0, ONE, (3, 1, 2, 2), 8)
            other = tuple((a * b).number() for a, b in zip(surds(one), surds([factor] * 8)))
            self.assertEqual(standing(one, other), (NIL,) * 7)

    def test_what_stays(self):
        rng = random.Random(52)
        for _ in range(60):
            made = some_made(rng)
            start = made.first_place() + rng.randint(0, 30)
            d, many = rng.choice([2, -1, 7]), rng.randint(2, 9)
            numbers = [(rng.randint(-9, 9), rng.choice([0, 1, -1]), 1, d) for _ in range(4)]
            numbers = [number if number[1] else (number[0], 0, 1, 1) for number in numbers]
            one, other = row(made.rule, start, *numbers[:2], many), row(made.rule, start, *numbers[2:], many)
            w = surds(self.check(one, other))
            self.assertEqual(len(w), many - 1)
            for k in range(many - 2):
                n = fraction_number(start + k)
                a, c = [sum(Fraction(each[0], each[2]) * n[0] ** i for i, each in enumerate(polynomial))
                        for polynomial in (made.rule[0], made.rule[2])]
                self.assertEqual(w[k + 1] * a, w[k] * c)

    def test_numbers_of_one_root(self):
        rng = random.Random(53)
        for d in (2, -1, 999999999989):
            one, other = [tuple((rng.randint(-99, 99), 1 + rng.randrange(9), 1, d) for _ in range(6)) for _ in range(2)]
            self.check(one, other)
            self.check(one, (HALF,) * 6)
            self.check((NIL, ONE) * 3, other)


class ByName(unittest.TestCase):
    def test_position_and_name(self):
        for thing in [APART, None] + RULES + NO_RULES:
            self.assertEqual(told(is_rule, thing=thing), told(is_rule, thing))
            self.assertEqual(told(first_place, rule=thing), told(first_place, thing))
        for rule, start, first, second, many in (
                (APART, 2, ONE, ROOT2, 6), (None, 2, ONE, ROOT2, 6), (APART, -2, ONE, ROOT2, 6),
                (APART, 2, None, ROOT2, 6), (APART, 2, ROOT3, ROOT2, 6), (APART, 2, ONE, ROOT2, -6)):
            wanted = told(row, rule, start, first, second, many)
            self.assertEqual(told(row, rule=rule, start=start, first=first, second=second, many=many), wanted)
            self.assertEqual(told(row, many=many, second=second, first=first, start=start, rule=rule), wanted)
            self.assertEqual(told(row, rule, start, first, second=second, many=many), wanted)
            wanted = told(keeps, rule, start, (first, second))
            self.assertEqual(told(keeps, rule=rule, start=start, thing=(first, second)), wanted)
            self.assertEqual(told(keeps, thing=(first, second), start=start, rule=rule), wanted)
        self.assertEqual(standing(one=(ONE, NIL), other=(NIL, ONE)), (ONE,))
        self.assertEqual(standing(other=(ONE, NIL), one=(NIL, ONE)), (LESS,))

    def test_the_same_call_gives_the_same(self):
        rng = random.Random(54)
        for _ in range(3):
            self.assertEqual(row(STEADY, 0, ONE, ONE, 5), tuple(whole(k) for k in (1, 1, 2, 3, 5)))
            self.assertEqual(told(first_place, ()), error(BadRule, ()))
            thing = changed(rng, some_value(rng))
            self.assertEqual(told(is_rule, thing), told(is_rule, thing))


if __name__ == "__main__":
    unittest.main()
