"""Part 5 and lines.py."""

import random
import unittest
from fractions import Fraction

from tests.rule_words import Made, choice_by_words, choice_powers, kernel, lines_by_words, pair, some_made
from tests.support import EDGES, NIL, ONE, ROOT2, answer, any_values, error, told, whole
from tests.surds import numbers_of
from tests.test_rules import NO_COUNTS, NO_RULES, RULES
from twicestep.errors import BadClass, BadCount, BadGrowth, BadLine, BadRule
from twicestep.formulas import are_alike, is_formula_of
from twicestep.lines import choice, classes, equation, lines
from twicestep.rules import is_rule

LESS, HALF, TWO = (-1, 0, 1, 1), (1, 0, 2, 1), (2, 0, 1, 1)
F = Fraction
APART = ((ONE,), (LESS, LESS), (LESS, LESS))
STEADY = ((ONE,), (LESS,), (LESS,))


def steady(*leads):
    """A rule of numbers alone, as they belong to y(n + 2), y(n + 1), y(n)."""
    return Made([], None if leads[1] == 0 else [], [], leads).rule


def within(made):
    """Whether a rule has few enough classes and lines."""
    return len(made.classes()) <= 4 and len(lines_by_words(made)) <= 120


class Classes(unittest.TestCase):
    def check(self, a, c, wanted, b=(1,)):
        self.assertEqual(told(classes, Made(a, b, c).rule), answer(wanted))
        self.assertEqual(told(classes, Made(a, None, c, (F(-2, 3), 1, F(5, 7))).rule), answer(wanted))

    def test_none(self):
        self.check([], [], ())
        self.check([], [], (), [F(1, 2), 5])

    def test_roots_of_c_and_of_a(self):
        self.check([], [3], (((0, 1), (1, 0)),))
        self.check([3], [], (((0, 1), (0, 1)),))
        self.check([0], [0], (((0, 1), (1, 1)),))
        self.check([-1], [F(1, 2)], (((0, 1), (0, 1)), ((1, 2), (1, 0))))
        self.check([F(1, 2)], [-1], (((0, 1), (1, 0)), ((1, 2), (0, 1))))

    def test_from_0_to_below_1(self):
        for root, wanted in ((F(7, 3), (1, 3)), (F(-7, 3), (2, 3)), (F(-1, 3), (2, 3)), (F(1, 3), (1, 3)), (-5, (0, 1)),
                             (F(-999, 1000), (1, 1000)), (F(999, 1000), (999, 1000)), (F(-1, 1000), (999, 1000)),
                             (F(-3, 2), (1, 2)), (1000, (0, 1)), (F(-41, 6), (1, 6))):
            self.check([], [root], ((wanted, (1, 0)),))
            self.check([root], [], ((wanted, (0, 1)),))

    def test_those_that_differ_by_an_integer_are_one(self):
        self.check([F(5, 2), F(-1, 2), 3], [F(1, 2), -4, F(-99, 2)], (((0, 1), (1, 1)), ((1, 2), (2, 2))))
        self.check([F(1, 3), F(1, 3)], [F(-2, 3), F(2, 3)], (((1, 3), (1, 2)), ((2, 3), (1, 0))))

    def test_ascending_as_fractions(self):
        self.check([F(1, 2), F(1, 3)], [F(2, 3), F(3, 5)],
                   (((1, 3), (0, 1)), ((1, 2), (0, 1)), ((3, 5), (1, 0)), ((2, 3), (1, 0))))
        self.check([F(-1, 2)], [F(-1, 3), F(-2, 3), 0],
                   (((0, 1), (1, 0)), ((1, 3), (1, 0)), ((1, 2), (0, 1)), ((2, 3), (1, 0))))

    def test_how_many(self):
        self.check([1, 1, 1], [2, 2], (((0, 1), (2, 3)),))
        self.check([1, 5, F(1, 2)], [2, F(5, 2), F(-5, 2)], (((0, 1), (1, 2)), ((1, 2), (2, 1))))

    def test_many(self):
        rng = random.Random(81)
        for _ in range(200):
            made = some_made(rng, 3, (1, 2, 3, 4, 7))
            wanted = tuple((pair(kind), (len(cs), len(ds))) for kind, cs, ds in made.classes())
            self.assertEqual(told(classes, made.rule), answer(wanted))


class Choice(unittest.TestCase):
    def check(self, a, c, kind, wanted):
        """The powers of all growths of a class, from the least one on."""
        rule = Made(a, [], c).rule
        (cs, ds), = [each for told_class, each in classes(rule) if told_class == kind]
        self.assertEqual(len(wanted), cs + ds + 1)
        for growth, powers in zip(range(-ds, cs + 1), wanted):
            self.assertEqual(told(choice, rule, kind, growth), answer(powers), (a, c, kind, growth))

    def test_one_fraction(self):
        self.check([], [5], (0, 1), [(), (((5, 1), 1),)])
        self.check([5], [], (0, 1), [(((6, 1), -1),), ()])
        self.check([F(-7, 3)], [], (2, 3), [(((-4, 3), -1),), ()])

    def test_the_greatest_of_c_and_the_least_of_a(self):
        self.check([], [2, 7, 4], (0, 1), [(), (((7, 1), 1),), (((4, 1), 1), ((7, 1), 1)),
                                           (((2, 1), 1), ((4, 1), 1), ((7, 1), 1))])
        self.check([2, 7, 4], [], (0, 1), [(((3, 1), -1), ((5, 1), -1), ((8, 1), -1)), (((3, 1), -1), ((5, 1), -1)),
                                           (((3, 1), -1),), ()])

    def test_both_are_made_greater(self):
        # c_1 = 5 and d_1 = 3: with growth 0 both are taken.
        self.check([2], [5], (0, 1), [(((3, 1), -1),), (((3, 1), -1), ((5, 1), 1)), (((5, 1), 1),)])
        # c_1 = 3 is less than d_1 = 5: neither.
        self.check([4], [3], (0, 1), [(((5, 1), -1),), (), (((3, 1), 1),)])
        self.check([0, 9], [8, 5], (0, 1), [
            (((1, 1), -1), ((10, 1), -1)), (((1, 1), -1),), (((1, 1), -1), ((8, 1), 1)),
            (((1, 1), -1), ((5, 1), 1), ((8, 1), 1)), (((5, 1), 1), ((8, 1), 1))])
        self.check([0, 1], [8, 5], (0, 1), [
            (((1, 1), -1), ((2, 1), -1)), (((1, 1), -1), ((2, 1), -1), ((8, 1), 1)),
            (((1, 1), -1), ((2, 1), -1), ((5, 1), 1), ((8, 1), 1)), (((1, 1), -1), ((5, 1), 1), ((8, 1), 1)),
            (((5, 1), 1), ((8, 1), 1))])

    def test_equal_ones_are_taken_and_leave_nothing(self):
        self.check([4], [5], (0, 1), [(((5, 1), -1),), (), (((5, 1), 1),)])
        self.check([4, 4], [5], (0, 1), [(((5, 1), -2),), (((5, 1), -1),), (), (((5, 1), 1),)])
        self.check([4], [5, 5], (0, 1), [(((5, 1), -1),), (), (((5, 1), 1),), (((5, 1), 2),)])
        self.check([4, 4], [5, 5], (0, 1), [(((5, 1), -2),), (((5, 1), -1),), (), (((5, 1), 1),), (((5, 1), 2),)])
        self.check([4, 6], [5, 7], (0, 1), [
            (((5, 1), -1), ((7, 1), -1)), (((5, 1), -1),), (((5, 1), -1), ((7, 1), 1)), (((7, 1), 1),),
            (((5, 1), 1), ((7, 1), 1))])

    def test_repeats(self):
        self.check([], [5, 5, 5], (0, 1), [(), (((5, 1), 1),), (((5, 1), 2),), (((5, 1), 3),)])
        self.check([1, 1], [5, 5, 0], (0, 1), [
            (((2, 1), -2),), (((2, 1), -2), ((5, 1), 1)), (((2, 1), -2), ((5, 1), 2)), (((2, 1), -1), ((5, 1), 2)),
            (((5, 1), 2),), (((0, 1), 1), ((5, 1), 2))])

    def test_other_classes_do_not_count(self):
        self.check([F(1, 2), 2], [F(7, 2), 5], (0, 1), [(((3, 1), -1),), (((3, 1), -1), ((5, 1), 1)), (((5, 1), 1),)])
        self.check([F(1, 2), 2], [F(7, 2), 5], (1, 2), [(((3, 2), -1),), (((3, 2), -1), ((7, 2), 1)), (((7, 2), 1),)])

    def test_many(self):
        rng = random.Random(82)
        for _ in range(200):
            made = some_made(rng, 3, (1, 1, 2))
            for kind, cs, ds in made.classes():
                for growth in range(-len(ds), len(cs) + 1):
                    wanted = choice_powers(*choice_by_words(cs, ds, growth))
                    self.assertEqual(told(choice, made.rule, pair(kind), growth), answer(wanted))

    def test_bad_class(self):
        rule = Made([F(1, 2)], [], [F(-2, 3)]).rule
        for kind in ((0, 1), (2, 4), (3, 2), (-1, 2), (1, -2), (1,), (1, 2, 3), [1, 2], (), None, True, 0, "1/2", 1, 2,
                     ((1, 2),), {1: 2}, (True, 2), (1, None), ((1, 2), (0, 1))):
            for growth in (0, 99, None):
                self.assertEqual(told(choice, rule, kind, growth), error(BadClass, kind))
                self.assertEqual(told(choice, STEADY, kind, growth), error(BadClass, kind))
        for kind in ((False, 1), (0, True), (False, True), [0, 1], (0, 1, 1), (0, 2), (1, 1)):
            self.assertEqual(told(choice, APART, kind, 0), error(BadClass, kind))
        self.assertEqual(choice(rule, (1, 2), 0), ())
        self.assertEqual(choice(rule, (1, 3), 0), ())

    def test_bad_growth(self):
        rule = Made([0, 0], [], [3, 4, 5]).rule
        for growth in (-3, 4, 10 ** 39, -10 ** 39, True, False, None, "0", (0,), [0], (), {}, {0: 0}, (0, 1)):
            self.assertEqual(told(choice, rule, (0, 1), growth), error(BadGrowth, growth))
        rule = Made([], [], [F(1, 2)]).rule
        self.assertEqual(told(choice, rule, (1, 2), 1), answer((((1, 2), 1),)))
        for growth in (-1, 2, True, False):
            self.assertEqual(told(choice, rule, (1, 2), growth), error(BadGrowth, growth))

    def test_any_values(self):
        rule = Made([2], [], [5]).rule
        for thing in any_values(83, 300, (0, 1), 1):
            if type(thing) is not tuple or repr(thing) != "(0, 1)":
                self.assertEqual(told(choice, rule, thing, 0), error(BadClass, thing))
            if type(thing) is not int or not -1 <= thing <= 1:
                self.assertEqual(told(choice, rule, (0, 1), thing), error(BadGrowth, thing))


def bases_of(rule):
    """The bases of a rule without classes."""
    return [base for growths, base, degrees in lines(rule)]


class Bases(unittest.TestCase):
    def test_two(self):
        self.assertEqual(bases_of(steady(1, -3, 2)), [TWO, ONE])
        self.assertEqual(bases_of(steady(1, 0, -4)), [TWO, whole(-2)])
        self.assertEqual(bases_of(steady(6, -5, 1)), [HALF, (1, 0, 3, 1)])
        self.assertEqual(bases_of(steady(F(1, 3), F(1, 6), F(-1, 2))), [ONE, (-3, 0, 2, 1)])

    def test_order_with_a_number_below_0(self):
        self.assertEqual(bases_of(steady(-1, 3, -2)), [ONE, TWO])
        self.assertEqual(bases_of(steady(-1, 0, 4)), [whole(-2), TWO])
        self.assertEqual(bases_of(steady(-1, 1, 1)), [(1, -1, 2, 5), (1, 1, 2, 5)])
        self.assertEqual(bases_of(steady(F(-1, 2), 0, -1)), [(0, -1, 1, -2), (0, 1, 1, -2)])

    def test_roots_of_integers_above_0(self):
        self.assertEqual(bases_of(STEADY), [(1, 1, 2, 5), (1, -1, 2, 5)])
        self.assertEqual(bases_of(steady(1, 0, -2)), [ROOT2, (0, -1, 1, 2)])
        self.assertEqual(bases_of(steady(2, -2, -1)), [(1, 1, 2, 3), (1, -1, 2, 3)])
        self.assertEqual(bases_of(steady(1, 0, F(-8, 9))), [(0, 2, 3, 2), (0, -2, 3, 2)])
        self.assertEqual(bases_of(steady(1, F(1, 3), F(-1, 5))), [(-5, 1, 30, 205), (-5, -1, 30, 205)])

    def test_roots_of_integers_below_0(self):
        self.assertEqual(bases_of(steady(1, 0, 1)), [(0, 1, 1, -1), (0, -1, 1, -1)])
        self.assertEqual(bases_of(steady(1, 1, 1)), [(-1, 1, 2, -3), (-1, -1, 2, -3)])
        self.assertEqual(bases_of(steady(1, 0, 12)), [(0, 2, 1, -3), (0, -2, 1, -3)])
        self.assertEqual(bases_of(steady(3, -2, F(1, 2))), [(2, 1, 6, -2), (2, -1, 6, -2)])

    def test_equal_ones_are_one(self):
        self.assertEqual(bases_of(steady(1, -2, 1)), [ONE])
        self.assertEqual(bases_of(steady(4, 4, 1)), [(-1, 0, 2, 1)])
        self.assertEqual(bases_of(steady(F(1, 2), F(-1, 3), F(1, 18))), [(1, 0, 3, 1)])

    def test_large_products_under_roots(self):
        for d in (999999999989, -999999999989, 999983 * 999979):
            self.assertEqual(bases_of(steady(1, 0, -d)), [(0, 1, 1, d), (0, -1, 1, d)])
        for k in (999983, 10 ** 6):
            self.assertEqual(bases_of(steady(1, 0, -k * k)), [whole(k), whole(-k)])
        self.assertEqual(bases_of(steady(999983, 0, -1)), [(0, 1, 999983, 999983), (0, -1, 999983, 999983)])
        self.assertEqual(bases_of(steady(10 ** 6, 0, -1)), [(1, 0, 1000, 1), (-1, 0, 1000, 1)])
        # Root (1 / B) ** 2 is a fraction, and root 5 / B ** 2 is root(5) / B.
        for large in (999999937, 998244353):
            self.assertEqual(bases_of(steady(1, F(-1, large), F(-1, large * large))),
                             [(1, 1, 2 * large, 5), (1, -1, 2 * large, 5)])
            self.assertEqual(bases_of(steady(F(1, large), F(-3, large), F(2, large))), [TWO, ONE])
            self.assertEqual(bases_of(steady(large, -3 * large, large)), [(3, 1, 2, 5), (3, -1, 2, 5)])
        self.assertEqual(bases_of(steady(F(1, 10 ** 8), 0, -10 ** 8)), [whole(10 ** 8), whole(-10 ** 8)])

    def check(self, a, b, c, wanted):
        """The pairs of growths and bases; a, b, c are last numbers and roots, b None if it is 0."""
        made = Made(a[1], b and b[1], c[1], [a[0], b[0] if b else 1, c[0]])
        found = [(growths, base) for growths, base, degrees in lines(made.rule)]
        self.assertEqual(found, wanted)
        self.assertEqual(found, [line.told()[:2] for line in lines_by_words(made)])

    def test_one_sum_alone_is_the_greatest(self):
        self.check((2, [0]), (5, []), (3, []), [])
        self.check((2, [F(1, 2), F(1, 2)]), (5, [0]), (3, [0]), [])
        self.check((2, []), (5, [0]), (3, []), [])
        self.check((2, []), (5, [0, 0, 0]), (3, []), [])
        self.check((2, []), (5, []), (3, [0]), [])
        self.check((2, []), (5, []), (3, [0, 0, 4]), [])
        self.check((2, []), None, (3, [0]), [])
        self.check((2, [0, 0, 0]), None, (3, []), [])

    def test_two_of_them(self):
        # That of a and that of b.
        self.check((2, []), (5, [3]), (3, [0]), [((0,), (-3, 0, 5, 1)), ((1,), (-5, 0, 2, 1))])
        self.check((2, [0]), (5, [3]), (3, []), [((-1,), (-3, 0, 5, 1)), ((0,), (-5, 0, 2, 1))])
        # That of a and that of c.
        self.check((2, [0]), (5, []), (3, [0]), [((0,), (0, 1, 2, -6)), ((0,), (0, -1, 2, -6))])
        self.check((2, [0, 0]), (5, []), (-3, []), [((-1,), (0, 1, 2, 6)), ((-1,), (0, -1, 2, 6))])
        # That of b and that of c.
        self.check((2, []), (5, [3]), (3, [F(1, 2)]), [((0,), (-3, 0, 5, 1)), ((1,), (-5, 0, 2, 1))])

    def test_all_three(self):
        self.check((2, [0]), (5, [0]), (3, [0]), [((0,), LESS), ((0,), (-3, 0, 2, 1))])
        self.check((2, [0, 1]), (5, [3]), (3, []), [((-1,), LESS), ((-1,), (-3, 0, 2, 1))])
        self.check((2, []), (5, [3]), (3, [0, 0]), [((1,), LESS), ((1,), (-3, 0, 2, 1))])
        self.check((1, [4]), (-1, [F(1, 7)]), (-1, [3]), [((0,), (1, 1, 2, 5)), ((0,), (1, -1, 2, 5))])
        self.check((1, [4]), (-6, [F(1, 7)]), (9, [3]), [((0,), whole(3))])

    def test_b_is_0(self):
        self.check((2, [0]), None, (3, [0]), [((0,), (0, 1, 2, -6)), ((0,), (0, -1, 2, -6))])
        self.check((1, []), None, (-9, [0, 0]), [((1,), whole(3)), ((1,), whole(-3))])
        self.check((1, []), None, (-9, [0]), [])
        self.check((-1, [F(1, 2), 3]), None, (F(1, 4), []), [((-1, 0), (-1, 0, 2, 1)), ((-1, 0), HALF),
                                                             ((0, -1), (-1, 0, 2, 1)), ((0, -1), HALF)])
        self.check((1, [0, 0, 0]), None, (-1, [1]), [((-1,), ONE), ((-1,), LESS)])

    def test_fractions(self):
        self.check((F(2, 3), []), (F(5, 7), [3]), (F(-3, 11), [0]), [((0,), (21, 0, 55, 1)), ((1,), (-15, 0, 14, 1))])


class Lines(unittest.TestCase):
    def check(self, a, b, c, leads, wanted):
        self.assertEqual(told(lines, Made(a, b, c, leads).rule), answer(wanted))

    def test_order_of_growths(self):
        self.check([F(1, 3)], [F(1, 7), F(1, 5)], [0, F(1, 2)], (1, 2, 3), (
            ((0, -1, 1), (-3, 0, 2, 1), ()), ((0, 0, 0), (-3, 0, 2, 1), ()), ((0, 0, 1), whole(-2), ()),
            ((1, -1, 0), (-3, 0, 2, 1), ()), ((1, -1, 1), whole(-2), ()), ((1, 0, 0), whole(-2), ())))

    def test_order_of_bases_within(self):
        low, high = (1, -1, 2, 5), (1, 1, 2, 5)
        self.check([0, F(1, 3)], [0, F(1, 7)], [0, F(1, 2)], (1, -1, -1), tuple(
            (growths, base, ()) for growths in ((-1, 0, 1), (0, -1, 1), (0, 0, 0), (1, -1, 0)) for base in (high, low)))
        self.check([F(1, 3), F(1, 4)], [F(1, 7)], [], (-1, -2, -3), tuple(
            (growths, base, ()) for growths in ((-1, 0), (0, -1)) for base in ((-1, -1, 1, -2), (-1, 1, 1, -2))))

    def test_no_lines(self):
        self.check([], [], [0], (1, -1, -1), ())
        self.check([], None, [0], (1, 1, -1), ())
        self.check([0], [], [], (1, -1, -1), ())

    def test_no_classes(self):
        self.check([], [], [], (1, -1, -1), (((), (1, 1, 2, 5), (0,)), ((), (1, -1, 2, 5), (0,))))
        self.check([], [], [], (1, -2, 1), (((), ONE, (0, 1)),))
        self.check([], None, [], (1, 1, -4), (((), TWO, (0,)), ((), whole(-2), (0,))))
        self.check([], [5], [], (1, -2, 1), ())

    def test_growths_are_chosen_for_each_class(self):
        found = lines(Made([0, 5, F(1, 2)], [3, 3], [1, F(5, 2), F(3, 2)], (1, 1, 1)).rule)
        self.assertEqual(sorted(set(growths for growths, base, degrees in found)),
                         [(-2, 2), (-1, 1), (0, 0), (1, -1)])

    def test_many(self):
        rng = random.Random(84)
        counted = 0
        for _ in range(250):
            made = some_made(rng, 3, rng.choice([(1,), (1, 1, 2), (1, 2, 3)]))
            if within(made):
                found = lines_by_words(made)
                self.assertEqual(told(lines, made.rule), answer(tuple(line.told() for line in found)))
                counted += len(found)
        self.assertGreater(counted, 300)

    def test_many_with_double_bases(self):
        rng = random.Random(85)
        counted = 0
        for _ in range(120):
            many, base = rng.randint(0, 3), F(rng.choice([-2, -1, 1, 3]), rng.choice([1, 2]))
            a, b, c = [[F(rng.randint(-4, 4), rng.choice([1, 1, 2])) for _ in range(many)] for _ in range(3)]
            if many > 0:
                b[0] = (sum(a) + sum(c)) / 2 - sum(b[1:])
            made = Made(a, b, c, (1, -2 * base, base * base))
            if within(made):
                self.assertEqual(told(lines, made.rule), answer(tuple(line.told() for line in lines_by_words(made))))
                counted += sum(len(degrees) > 0 for growths, each, degrees in lines(made.rule))
        self.assertGreater(counted, 60)

    def test_four_classes(self):
        made = Made([0, F(1, 2), F(1, 3)], [1, 2, 3], [F(1, 2), 5, F(2, 3)], (1, -3, 2))
        self.assertEqual(len(made.classes()), 4)
        found = tuple(line.told() for line in lines_by_words(made))
        self.assertGreater(len(found), 15)
        self.assertEqual(lines(made.rule), found)

    def test_nine_digits(self):
        made = Made([F(997, 1000), F(-999, 991)], [F(1000, 999), 0], [F(-3, 1000), F(1, 991)],
                    (F(997, 7), F(-997, 7), F(-997, 7)))
        found = tuple(line.told() for line in lines_by_words(made))
        self.assertGreater(len(found), 3)
        self.assertEqual(lines(made.rule), found)


class Degrees(unittest.TestCase):
    def check(self, made, growths, wanted):
        """The degrees of the lines with these growths, in their order."""
        found = [degrees for each, base, degrees in lines(made.rule) if each == growths]
        self.assertEqual(found, wanted)
        self.assertEqual(found, [line.degrees() for line in lines_by_words(made) if line.growths == growths])

    def test_one_degree(self):
        # 2 y(n + 2) = (n + 3 - x) y(n + 1) - (n + 1) y(n): a polynomial of degree x keeps it.
        for x in range(13):
            self.check(Made([], [x - 3], [-1], (2, -1, 1)), (0,), [(x,)])
        self.check(Made([], [], [], (1, -1, -1)), (), [(0,), (0,)])
        self.check(Made([0, 1], [3], [], (2, 5, 3)), (-1,), [(10,), ()])

    def test_below_0_or_no_integer(self):
        for x in (-1, -2, -9, F(1, 2), F(-1, 2), F(25, 2), F(10, 3)):
            self.check(Made([], [x - 3], [-1], (2, -1, 1)), (0,), [()])
        self.check(Made([], [-1], [-1], (1, -1, -1)), (0,), [()])
        # Numbers with a root.
        self.check(Made([F(1, 2)], [F(1, 3)], [0], (1, -1, -1)), (0, 0), [(), ()])
        self.check(Made([0], [F(1, 3)], [2], (1, -1, -1)), (0,), [(), ()])

    def test_bases_with_roots(self):
        # (n + 2) y(n + 2) = 2 x (n + 1 + l) y(n + 1) - (n + 2 l) y(n).
        for l in range(1, 9):
            for x in (2, F(1, 2), 3, F(3, 4)):
                self.check(Made([-2], [-1 - l], [-2 * l], (1, -2 * x, 1)), (0,), [(l - 1,), (l - 1,)])
                self.check(Made([-2], [-2 - l], [-2 * l], (1, -2 * x, 1)), (0,), [(), ()])

    def test_none_as_the_second_sum_is_not_0(self):
        self.check(Made([0], [F(1, 2)], [2], (1, -2, 1)), (0,), [()])
        self.check(Made([0], [0], [-1], (1, -2, 1)), (0,), [()])

    def test_two_degrees(self):
        self.check(Made([], [], [], (1, -2, 1)), (), [(0, 1)])
        self.check(Made([], [], [], (4, -4, 1)), (), [(0, 1)])
        self.check(Made([0], [F(-1, 2)], [-1], (1, -2, 1)), (0,), [(0, 2)])
        self.check(Made([0], [-1], [-2], (1, -2, 1)), (0,), [(0, 3)])
        self.check(Made([0], [-2], [-4], (1, -2, 1)), (0,), [(0, 5)])
        self.check(Made([-2], [-7], [-12], (1, -2, 1)), (0,), [(0, 11)])
        self.check(Made([-2, -1], [-2, 0], [-2, 1], (3, -6, 3)), (0,), [(1, 2)])
        self.check(Made([-2, 1], [-2, 1], [-2, 1], (1, -2, 1)), (0,), [(2, 3)])

    def test_the_same_degree_twice_is_one(self):
        self.check(Made([-2], [F(-3, 2)], [-1], (1, -2, 1)), (0,), [(0,)])
        self.check(Made([-2, -1], [-1, F(1, 2)], [1, 1], (1, -2, 1)), (0,), [(1,)])
        self.check(Made([-2, 0], [-2, F(1, 2)], [-2, 1], (1, -2, 1)), (0,), [(2,)])

    def test_one_of_two_is_none(self):
        self.check(Made([F(1, 2), F(1, 2)], [0, 0], [-2, 1], (1, -2, 1)), (1, -1), [(3,)])
        self.check(Made([F(1, 2), F(1, 2)], [-1, 0], [-2, -1], (1, -2, 1)), (1, -1), [(2,)])

    def test_both_are_none(self):
        half = F(1, 2)
        self.check(Made([-2, 1], [-1, 1], [half, half], (1, -2, 1)), (-2, 2), [()])
        self.check(Made([0, half], [-1, half], [-2, half], (1, -2, 1)), (-1, 1), [()])
        self.check(Made([-2, half], [-2, half], [-2, half], (1, -2, 1)), (-1, 1), [()])
        # No fractions, and none at all.
        self.check(Made([-2, -2], [-1, -1], [-1, 1], (1, -2, 1)), (0,), [()])
        self.check(Made([-2, -2], [-2, -1], [-1, -1], (1, -2, 1)), (0,), [()])

    def test_each_polynomial_has_one_of_them_and_gives_a_formula(self):
        rng = random.Random(86)
        many = 0
        mades = [Made([], [x - 3], [-1], (2, -1, 1)) for x in (0, 2, 5)]
        mades += [Made([-2], [-1 - l], [-2 * l], (1, -2 * x, 1)) for l in (1, 2, 3) for x in (1, 2, F(1, 2))]
        mades += [Made([0], [-1], [-2], (1, -2, 1)), Made([-2, 1], [-2, 1], [-2, 1], (1, -2, 1))]
        mades += [made for made in (some_made(rng, 2, (1,)) for _ in range(60)) if within(made)]
        for made in mades:
            formulas = []
            for line, (growths, base, degrees) in zip(lines_by_words(made), lines(made.rule)):
                found = kernel(line, 7)
                for polynomial in found:
                    self.assertIn(len(polynomial) - 1, degrees)
                    formula = (base, line.powers, numbers_of(polynomial))
                    self.assertIs(is_formula_of(made.rule, formula), True)
                    self.assertFalse(any(are_alike(formula, other) for other in formulas))
                    formulas.append(formula)
                    many += 1
        self.assertGreater(many, 30)


class Equation(unittest.TestCase):
    def check(self, made, most_lines=6, degrees=(0, 1, 3)):
        for at, line in enumerate(lines_by_words(made)[:most_lines]):
            for degree in degrees:
                for j in range(max(len(part) for part in line.parts) + degree + 2):
                    self.assertEqual(told(equation, made.rule, at, degree, j), answer(line.equation(degree, j)))

    def test_simple_ones(self):
        self.assertEqual(equation(APART, 1, 0, 1), (NIL,))
        # y(n + 2) - 2 y(n + 1) + y(n) of 1, n, n n, n n n.
        rule = steady(1, -2, 1)
        self.assertEqual([equation(rule, 0, 3, j) for j in range(4)],
                         [(NIL, NIL, TWO, whole(6)), (NIL, NIL, NIL, whole(6)), (NIL,) * 4, (NIL,) * 4])
        self.assertEqual([equation(STEADY, at, 1, 0) for at in (0, 1)], [(NIL, (5, 1, 2, 5)), (NIL, (5, -1, 2, 5))])
        self.assertEqual([equation(STEADY, at, 1, 1) for at in (0, 1)], [(NIL, NIL), (NIL, NIL)])

    def test_all_numbers_zero(self):
        for j in (0, 1, 2, 9, 10 ** 39):
            self.assertEqual(equation(STEADY, 0, 0, j), (NIL,))
        for j in (14, 15, 99, 10 ** 39):
            self.assertEqual(equation(steady(1, -2, 1), 0, 12, j), (NIL,) * 13)

    def test_fractions(self):
        self.check(Made([F(1, 2)], [F(-5, 3)], [F(7, 2)], (F(2, 3), F(-5, 7), F(1, 21))))
        self.check(Made([0, 5], [3], [], (2, 5, 3)))
        self.check(Made([1, F(1, 2), 7], [2, 2, 2], [3, F(3, 2), -1], (1, -3, 2)), 3, (0, 2))

    def test_roots(self):
        self.check(Made([0, F(1, 3)], [0, F(1, 7)], [0, F(1, 2)], (1, -1, -1)), 4, (0, 2))
        self.check(Made([F(1, 3), F(1, 4)], [F(1, 7)], [], (-1, -2, -3)))

    def test_b_is_0(self):
        self.check(Made([0], None, [3], (1, 1, -4)))
        self.check(Made([0], None, [F(3, 2)], (2, 1, 3)))

    def test_many(self):
        rng = random.Random(87)
        for _ in range(50):
            made = some_made(rng, 3, rng.choice([(1,), (1, 2)]))
            if within(made):
                self.check(made, 2, (rng.randint(0, 3),))

    def test_degree_12(self):
        self.check(Made([], [9], [-1], (2, -1, 1)), 2, (12,))
        self.check(Made([4, 5], [F(1, 2), 3], [-1, 2], (1, -1, -1)), 1, (12,))

    def test_the_highest_numbers_are_zero(self):
        made = Made([F(1, 2), 3], [F(1, 3), 1], [0, F(7, 2)], (1, -3, 2))
        for at, line in enumerate(lines_by_words(made)):
            greatest = max(len(part) for part in line.parts) - 1
            for degree in range(4):
                self.assertEqual(equation(made.rule, at, degree, greatest + degree), (NIL,) * (degree + 1))

    def test_a_polynomial_in_the_kernel_is_a_multiple_that_is_zero(self):
        made = Made([], [0], [-1], (2, -1, 1))
        line = lines_by_words(made)[0]
        polynomial, = kernel(line, 3)
        for j in range(8):
            numbers = equation(made.rule, 0, 3, j)
            total = sum(F(p, s) * number.a for (p, _, s, _), number in zip(numbers, polynomial))
            self.assertEqual(total, 0)


class Errors(unittest.TestCase):
    def test_bad_rule_is_ahead_of_all_others(self):
        for bad in NO_RULES + EDGES:
            self.assertEqual(told(classes, bad), error(BadRule, bad))
            self.assertEqual(told(lines, bad), error(BadRule, bad))
            for rest in ((None, None), ((0, 1), 0), ([], 99)):
                self.assertEqual(told(choice, bad, *rest), error(BadRule, bad))
            for rest in ((None, None, None), (0, 0, 0), (-1, -1, -1)):
                self.assertEqual(told(equation, bad, *rest), error(BadRule, bad))

    def test_bad_rule_of_any_value(self):
        for thing in any_values(88, 200, *RULES):
            if not is_rule(thing):
                for found in (told(classes, thing), told(lines, thing), told(choice, thing, (0, 1), 0),
                              told(equation, thing, 0, 0, 0)):
                    self.assertEqual(found, error(BadRule, thing))

    def test_bad_line(self):
        for line in (2, 3, -1, -2, 10 ** 39, True, False, None, "0", (0,), [0], (), {}, {0: 0}, lines(APART)[0]):
            for rest in ((0, 0), (-1, 0), (None, None)):
                self.assertEqual(told(equation, APART, line, *rest), error(BadLine, line))
        for rule in (steady(1, -2, 1), steady(1, -1, -1)):
            many = len(lines(rule))
            self.assertEqual(told(equation, rule, many, 0, 0), error(BadLine, many))
            self.assertEqual(equation(rule, many - 1, 0, 0), (NIL,))
        self.assertEqual(told(equation, Made([], [], [0]).rule, 0, 0, 0), error(BadLine, 0))

    def test_bad_count(self):
        for bad in NO_COUNTS:
            self.assertEqual(told(equation, APART, 0, bad, 0), error(BadCount, bad))
            self.assertEqual(told(equation, APART, 0, 0, bad), error(BadCount, bad))
            for worse in (-7, None):
                self.assertEqual(told(equation, APART, 0, bad, worse), error(BadCount, bad))
                self.assertEqual(told(equation, APART, 0, worse, bad), error(BadCount, worse))

    def test_any_values(self):
        for thing in any_values(89, 150, 1, lines(APART)[0]):
            if type(thing) is not int or not 0 <= thing <= 1:
                self.assertEqual(told(equation, APART, thing, 0, 0), error(BadLine, thing))
            if type(thing) is not int or thing < 0:
                self.assertEqual(told(equation, APART, 0, thing, 0), error(BadCount, thing))
                self.assertEqual(told(equation, APART, 0, 0, thing), error(BadCount, thing))


class ByName(unittest.TestCase):
    def test_position_and_name(self):
        for rule in RULES + NO_RULES:
            self.assertEqual(told(classes, rule=rule), told(classes, rule))
            self.assertEqual(told(lines, rule=rule), told(lines, rule))
        for rule, kind, growth in ((APART, (0, 1), 1), (APART, (0, 1), 2), (APART, (1, 2), 1), (None, (0, 1), 1)):
            wanted = told(choice, rule, kind, growth)
            self.assertEqual(told(choice, rule=rule, kind=kind, growth=growth), wanted)
            self.assertEqual(told(choice, growth=growth, kind=kind, rule=rule), wanted)
            self.assertEqual(told(choice, rule, kind, growth=growth), wanted)
        for rule, line, degree, j in ((STEADY, 1, 2, 0), (None, 1, 2, 0), (STEADY, 2, 2, 0), (STEADY, 1, -2, 0),
                                      (STEADY, 1, 2, -1)):
            wanted = told(equation, rule, line, degree, j)
            self.assertEqual(told(equation, rule=rule, line=line, degree=degree, j=j), wanted)
            self.assertEqual(told(equation, j=j, degree=degree, line=line, rule=rule), wanted)
            self.assertEqual(told(equation, rule, line, degree=degree, j=j), wanted)

    def test_the_same_call_gives_the_same(self):
        for _ in range(3):
            self.assertEqual(lines(STEADY), (((), (1, 1, 2, 5), (0,)), ((), (1, -1, 2, 5), (0,))))
            self.assertEqual(classes(APART), (((0, 1), (1, 0)),))
            self.assertEqual(equation(STEADY, 0, 1, 0), (NIL, (5, 1, 2, 5)))


if __name__ == "__main__":
    unittest.main()
