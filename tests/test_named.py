"""Part 8 and named.py."""

import random
import unittest
from fractions import Fraction as F
from math import gcd

from tests.support import EDGES, answer, any_values, error, plain_polynomial, told
from twicestep import named
from twicestep.errors import BadParameter
from twicestep.lines import lines
from twicestep.rules import is_rule
from twicestep.verdict import judge_verdict, verdict, verdict_holds

# The names of the parameters, and a(n), b(n), c(n) as the document tells them.
RULES = {
    "steady": ("x t", lambda n, x, t: (1, -x, -t)),
    "hermite": ("x t", lambda n, x, t: (1, -x, -(n + t))),
    "bessel": ("x l t", lambda n, x, l, t: (1, -x * (n + l), -t)),
    "gegenbauer": ("x l", lambda n, x, l: (n + 2, -2 * x * (n + 1 + l), n + 2 * l)),
    "laguerre": ("x l", lambda n, x, l: (n + 2, -(2 * n + 3 + l - x), n + 1 + l)),
    "charlier": ("x t", lambda n, x, t: (t, -(n + 1 + t - x), n + 1)),
    "meixner": ("x l t", lambda n, x, l, t: (t * (n + 1 + l), -((t - 1) * x + n + 1 + t * (n + 1 + l)), n + 1)),
}
NAMES = list(RULES)
WITH_DIVISOR = ["steady", "bessel", "charlier", "meixner"]
SMALL = [(0, 1), (1, 1), (-1, 1), (2, 1), (-2, 1), (3, 1), (1, 2), (-1, 2), (3, 2), (-5, 2), (1, 3), (-2, 3), (5, 4)]
EDGE_PARAMETERS = [(40, 1), (-40, 1), (39, 11), (-37, 12), (1, 12), (-1, 12), (5, 12), (40, 11), (-40, 9), (0, 1),
                   (1, 1), (-1, 1), (1, 2), (7, 1), (-12, 1), (12, 1), (11, 12), (-35, 12)]
NO_PARAMETERS = [
    (2, 2), (0, 2), (0, 12), (4, 6), (-4, 6), (40, 10), (1, 0), (0, 0), (1, -1), (-1, -2), (0, -1), (1, 13), (-1, 13),
    (1, 24), (0, 13), (41, 1), (-41, 1), (41, 12), (-43, 12), (1000, 1), (10 ** 39, 1), (1, 10 ** 39), (True, 1),
    (1, True), (False, 1), (True, True), (0, False), [0, 1], [1, 2], (1,), (), (1, 2, 3), (0, 1, 1), ((1, 2),),
    ((0, 1), (0, 1)), 0, 1, -1, True, False, None, "", "1/2", "(0, 1)", (None, 1), (1, None), ("1", 1), ((1,), 1),
    {0: 0, 1: 1}, {}, [], (1, 0, 1, 1), (0, 0, 1, 1),
]


def values(args):
    return [F(*each) for each in args]


def by_words(name, args):
    """The rule, from the values of a, b and c at 0 and at 1."""
    parts = []
    for ahead, behind in zip(RULES[name][1](0, *values(args)), RULES[name][1](1, *values(args))):
        numbers = [F(ahead), F(behind) - F(ahead)]
        while numbers and numbers[-1] == 0:
            numbers.pop()
        parts.append(plain_polynomial(numbers))
    return tuple(parts)


def whole_one(fraction):
    return F(fraction).denominator == 1


def verdict_by_words(name, args):
    named_values = dict(zip(RULES[name][0].split(), values(args)))
    x, l, t = [named_values.get(letter) for letter in "xlt"]
    if name == "steady":
        return "formula"
    if name == "hermite":
        return "laid" if x == 0 else "nothing"
    if name in ("bessel", "laguerre"):
        return "formula" if x == 0 else "nothing"
    if name == "gegenbauer":
        return "formula" if whole_one(l) or abs(x) == 1 else "laid" if x == 0 else "nothing"
    if name == "charlier":
        return "formula" if whole_one(x) else "nothing"
    if t == 1 or whole_one(x) or whole_one(x + l):
        return "formula"
    return "laid" if t == -1 and whole_one(2 * x + l) else "nothing"


def calls(name):
    return getattr(named, name), getattr(named, name + "_verdict")


def some_parameter(rng):
    while True:
        top, bottom = rng.randint(-40, 40), rng.randint(1, 12)
        if gcd(top, bottom) == 1:
            return (top, bottom)


def all_args(name, parameters):
    """All parameters of a rule; none with t zero."""
    found = [()]
    for letter in RULES[name][0].split():
        found = [args + (each,) for args in found for each in parameters
                 if not (letter == "t" and name in WITH_DIVISOR and each == (0, 1))]
    return found


def drawn(rng, name, parameters, many):
    found = all_args(name, parameters)
    return rng.sample(found, min(many, len(found)))


class Rules(unittest.TestCase):
    def check(self, name, args):
        rule, _ = calls(name)
        wanted = by_words(name, args)
        self.assertEqual(told(rule, *args), answer(wanted), (name, args))
        self.assertIs(is_rule(wanted), True)

    def test_in_numbers(self):
        self.assertEqual(by_words("charlier", ((0, 1), (2, 1))), (((2, 0, 1, 1),), ((-3, 0, 1, 1), (-1, 0, 1, 1)),
                                                                  ((1, 0, 1, 1), (1, 0, 1, 1))))
        self.assertEqual(told(named.steady, (0, 1), (-3, 4)), answer((((1, 0, 1, 1),), (), ((3, 0, 4, 1),))))
        self.assertEqual(told(named.bessel, (1, 2), (0, 1), (1, 3)),
                         answer((((1, 0, 1, 1),), ((0, 0, 1, 1), (-1, 0, 2, 1)), ((-1, 0, 3, 1),))))
        self.assertEqual(told(named.gegenbauer, (1, 3), (1, 2)),
                         answer((((2, 0, 1, 1), (1, 0, 1, 1)), ((-1, 0, 1, 1), (-2, 0, 3, 1)),
                                 ((1, 0, 1, 1), (1, 0, 1, 1)))))
        self.assertEqual(told(named.laguerre, (1, 2), (0, 1)),
                         answer((((2, 0, 1, 1), (1, 0, 1, 1)), ((-5, 0, 2, 1), (-2, 0, 1, 1)),
                                 ((1, 0, 1, 1), (1, 0, 1, 1)))))
        self.assertEqual(told(named.meixner, (1, 4), (1, 2), (-1, 1)),
                         answer((((-3, 0, 2, 1), (-1, 0, 1, 1)), ((1, 0, 1, 1),), ((1, 0, 1, 1), (1, 0, 1, 1)))))
        self.assertEqual(told(named.meixner, (1, 4), (-1, 2), (-1, 1)),
                         answer((((-1, 0, 2, 1), (-1, 0, 1, 1)), (), ((1, 0, 1, 1), (1, 0, 1, 1)))))

    def test_small_parameters(self):
        rng = random.Random(601)
        for name in NAMES:
            for args in drawn(rng, name, SMALL, 300):
                self.check(name, args)

    def test_at_the_bounds(self):
        rng = random.Random(602)
        for name in NAMES:
            for args in drawn(rng, name, EDGE_PARAMETERS, 300):
                self.check(name, args)

    def test_drawn(self):
        rng = random.Random(603)
        for name in NAMES:
            for _ in range(100):
                args = tuple(some_parameter(rng) for _ in RULES[name][0].split())
                if not (name in WITH_DIVISOR and args[-1] == (0, 1)):
                    self.check(name, args)


class Verdicts(unittest.TestCase):
    def check(self, name, args, wanted=None):
        _, call = calls(name)
        wanted = wanted or verdict_by_words(name, args)
        self.assertEqual(told(call, *args), answer(wanted), (name, args))
        return wanted

    def test_steady(self):
        for args in all_args("steady", SMALL + EDGE_PARAMETERS):
            self.check("steady", args, "formula")

    def test_hermite(self):
        for t in SMALL + EDGE_PARAMETERS:
            self.check("hermite", ((0, 1), t), "laid")
            for x in ((1, 1), (-1, 1), (1, 12), (-1, 12), (40, 1), (-40, 1), (1, 2)):
                self.check("hermite", (x, t), "nothing")

    def test_bessel(self):
        for l in SMALL + EDGE_PARAMETERS:
            for t in ((1, 1), (-1, 1), (40, 1), (-1, 12)):
                self.check("bessel", ((0, 1), l, t), "formula")
                for x in ((1, 12), (-1, 12), (40, 1), (2, 1)):
                    self.check("bessel", (x, l, t), "nothing")

    def test_gegenbauer(self):
        for l in ((0, 1), (1, 1), (-1, 1), (5, 1), (40, 1), (-40, 1)):
            for x in SMALL:
                self.check("gegenbauer", (x, l), "formula")
        for l in ((1, 2), (-1, 2), (1, 12), (-40, 11), (25, 12)):
            for x, wanted in (((1, 1), "formula"), ((-1, 1), "formula"), ((0, 1), "laid"), ((11, 12), "nothing"),
                              ((12, 11), "nothing"), ((-11, 12), "nothing"), ((2, 1), "nothing"), ((1, 12), "nothing"),
                              ((-40, 1), "nothing"), ((1, 2), "nothing")):
                self.check("gegenbauer", (x, l), wanted)

    def test_laguerre(self):
        for l in SMALL + EDGE_PARAMETERS:
            self.check("laguerre", ((0, 1), l), "formula")
            for x in ((1, 12), (-1, 12), (1, 1), (-1, 1), (40, 1)):
                self.check("laguerre", (x, l), "nothing")

    def test_charlier(self):
        for t in ((1, 1), (-1, 1), (40, 1), (1, 12), (-5, 12)):
            for x in ((0, 1), (1, 1), (-1, 1), (40, 1), (-40, 1)):
                self.check("charlier", (x, t), "formula")
            for x in ((1, 2), (-1, 2), (1, 12), (13, 12), (-40, 11)):
                self.check("charlier", (x, t), "nothing")

    def test_meixner(self):
        for x, l in (((1, 4), (1, 3)), ((1, 2), (1, 3)), ((1, 4), (1, 2)), ((5, 12), (1, 11))):
            self.check("meixner", (x, l, (1, 1)), "formula")
            self.check("meixner", (x, l, (11, 12)), "nothing")
            self.check("meixner", (x, l, (2, 1)), "nothing")
        for t in ((-1, 1), (2, 1), (1, 2), (-40, 1), (1, 12)):
            for x in ((0, 1), (1, 1), (-1, 1), (40, 1)):
                self.check("meixner", (x, (1, 3), t), "formula")
            for x, l in (((1, 3), (2, 3)), ((1, 3), (-1, 3)), ((-7, 12), (7, 12)), ((5, 12), (-29, 12)),
                         ((1, 2), (3, 2))):
                self.check("meixner", (x, l, t), "formula")
            for x, l in (((1, 3), (1, 6)), ((1, 3), (1, 4)), ((1, 4), (-3, 8)), ((5, 12), (1, 11))):
                self.check("meixner", (x, l, t), "nothing")
        for x, l in (((1, 4), (1, 2)), ((1, 4), (-1, 2)), ((1, 3), (1, 3)), ((-1, 3), (-7, 3)), ((5, 12), (1, 6))):
            self.check("meixner", (x, l, (-1, 1)), "laid")
            for t in ((-11, 12), (-2, 1), (2, 1), (-1, 12)):
                self.check("meixner", (x, l, t), "nothing")

    def test_by_words(self):
        rng = random.Random(611)
        for name in NAMES:
            for parameters in (SMALL, EDGE_PARAMETERS):
                for args in drawn(rng, name, parameters, 200):
                    self.check(name, args)

    def test_equal_to_what_verdict_tells(self):
        rng = random.Random(612)
        counts = {}
        # x = 0, and with t = -1 two times x + l an integer: seldom drawn.
        more = {"hermite": [((0, 1), t) for t in SMALL],
                "meixner": [(x, l, (-1, 1)) for x, l in (((1, 4), (1, 2)), ((1, 3), (1, 3)), ((-1, 3), (5, 3)),
                                                         ((1, 4), (-1, 2)))]}
        for name in NAMES:
            rule, call = calls(name)
            for args in drawn(rng, name, SMALL, 110) + more.get(name, []):
                wanted = call(*args)
                self.assertEqual(verdict(rule(*args)), wanted, (name, args))
                counts[name, wanted] = counts.get((name, wanted), 0) + 1
        self.assertEqual(sorted(counts), sorted(
            [("steady", "formula"), ("hermite", "laid"), ("hermite", "nothing"), ("bessel", "formula"),
             ("bessel", "nothing"), ("gegenbauer", "formula"), ("gegenbauer", "laid"), ("gegenbauer", "nothing"),
             ("laguerre", "formula"), ("laguerre", "nothing"), ("charlier", "formula"), ("charlier", "nothing"),
             ("meixner", "formula"), ("meixner", "laid"), ("meixner", "nothing")]))

    def test_equal_to_what_verdict_tells_at_the_bounds(self):
        rng = random.Random(613)
        for name in NAMES:
            rule, call = calls(name)
            for args in drawn(rng, name, EDGE_PARAMETERS, 40):
                triple = rule(*args)
                if all(degree <= 12 for _, _, degrees in lines(triple) for degree in degrees):
                    reply = judge_verdict(triple)
                    self.assertEqual(reply[0], call(*args), (name, args))
                    self.assertIs(verdict_holds(triple, reply), True)


class BadParameters(unittest.TestCase):
    def check(self, name, args, bad):
        for call in calls(name):
            self.assertEqual(told(call, *args), error(BadParameter, bad), (name, args))

    def good(self, name):
        return tuple((1, 2) for _ in RULES[name][0].split())

    def test_one_wrong(self):
        for name in NAMES:
            good = self.good(name)
            for at in range(len(good)):
                for bad in NO_PARAMETERS + EDGES:
                    self.check(name, good[:at] + (bad,) + good[at + 1:], bad)

    def test_zero(self):
        for name in WITH_DIVISOR:
            self.check(name, self.good(name)[:-1] + ((0, 1),), (0, 1))
            self.check(name, ((0, 1),) * len(self.good(name)), (0, 1))
        for x in SMALL:
            self.assertEqual(told(named.hermite, x, (0, 1)), answer(by_words("hermite", (x, (0, 1)))))
            self.assertEqual(told(named.hermite_verdict, x, (0, 1)), answer("laid" if x == (0, 1) else "nothing"))
        for name in ("gegenbauer", "laguerre"):
            for call in calls(name):
                self.assertEqual(told(call, (0, 1), (0, 1))[0], "answer")

    def test_zero_as_another_parameter(self):
        for name in WITH_DIVISOR:
            args = ((0, 1),) * (len(self.good(name)) - 1) + ((1, 2),)
            for call in calls(name):
                self.assertEqual(told(call, *args)[0], "answer")

    def test_the_first_of_several(self):
        rng = random.Random(621)
        for name in NAMES:
            good = self.good(name)
            for _ in range(150):
                args = list(good)
                wrong = sorted(rng.sample(range(len(good)), rng.randint(1, len(good))))
                for at in wrong:
                    args[at] = rng.choice(NO_PARAMETERS)
                if name in WITH_DIVISOR and rng.random() < 0.4:
                    args[-1] = (0, 1)
                    wrong = sorted(set(wrong) | {len(good) - 1})
                self.check(name, tuple(args), args[wrong[0]])

    def test_any_value(self):
        for thing in any_values(622, 150, (1, 2), (-40, 11)):
            fits = (type(thing) is tuple and len(thing) == 2 and all(type(each) is int for each in thing)
                    and 1 <= thing[1] <= 12 and abs(thing[0]) <= 40 and gcd(*thing) == 1)
            for name in NAMES:
                good = self.good(name)
                for at in range(len(good)):
                    args = good[:at] + (thing,) + good[at + 1:]
                    if not fits or (thing == (0, 1) and name in WITH_DIVISOR and at == len(good) - 1):
                        self.check(name, args, thing)
                    else:
                        rule, call = calls(name)
                        self.assertEqual(told(rule, *args), answer(by_words(name, args)))
                        self.assertEqual(told(call, *args), answer(verdict_by_words(name, args)))


class ByName(unittest.TestCase):
    def test_position_and_name(self):
        rng = random.Random(631)
        for name in NAMES:
            letters = RULES[name][0].split()
            wrong = [((2, 2),) * len(letters), ((1, 1),) * (len(letters) - 1) + (0,)]
            for args in drawn(rng, name, SMALL, 8) + wrong:
                for call in calls(name):
                    wanted = told(call, *args)
                    self.assertEqual(told(call, **dict(zip(letters, args))), wanted)
                    self.assertEqual(told(call, **dict(list(zip(letters, args))[::-1])), wanted)
                    self.assertEqual(told(call, args[0], **dict(zip(letters[1:], args[1:]))), wanted)
                    self.assertEqual(told(call, *args), wanted)


if __name__ == "__main__":
    unittest.main()
