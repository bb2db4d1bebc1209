"""Point [0.3], over the whole program, with rules that are drawn from small numbers."""

import random
import unittest

from tests.rule_words import Made, lines_by_words, row_by_words, solves_by_words
from tests.sample_rules import APART, DOUBLE, STEADY, gegenbauer, powers_rule
from tests.support import ROOT2, changed, told, whole
from tests.test_formulas import otherwise, spoilt
from tests.verdict_words import Even, Judge, VerdictJudge, both_within, laid_made, searched, small_made, within
from twicestep.formulas import are_alike, formula_place, formula_row, is_formula_of
from twicestep.lines import lines
from twicestep.rules import first_place, keeps, row, standing
from twicestep.verdict import (even_formula, even_rule, formula_holds, formulas, judge_formula, judge_verdict,
                               many_formulas, verdict, verdict_holds)

KINDS = ("none", "one", "two", "endless")


def drawn_rules(seed, many, degree=2):
    rng = random.Random(seed)
    return [small_made(rng, degree) for _ in range(many)]


class OneKind(unittest.TestCase):
    def test_a_formula_or_a_table_and_never_both(self):
        rng = random.Random(701)
        counts = {"formula": 0, "table": 0}
        for made in drawn_rules(702, 250):
            reply = judge_formula(made.rule)
            counts[reply[0]] += 1
            self.assertIs(formula_holds(made.rule, reply), True)
            self.assertEqual(reply[0] == "formula", formulas(made.rule) != ())
            self.assertEqual(reply[0] == "formula", many_formulas(made.rule) != "none")
            if reply[0] == "formula":
                self.assertIs(is_formula_of(made.rule, reply[1:]), True)
                # Any table at all: the lines that are shut are told, the open ones get what is asked for in number.
                for _ in range(3):
                    items = tuple(tuple(sorted(rng.sample(range(degrees[-1] + 8), degrees[-1] + 1))) if degrees
                                  else "shut" for _, _, degrees in lines(made.rule))
                    self.assertIs(formula_holds(made.rule, ("table", items)), False)
            else:
                self.assertEqual(len(reply[1]), len(lines(made.rule)))
        self.assertGreater(min(counts.values()), 15)

    def test_judged_as_petkovsek_does(self):
        rng = random.Random(703)
        counts = {word: 0 for word in KINDS}
        tried = [made for made in (small_made(rng) for _ in range(120)) if within(made, 6)]
        for made in tried + [STEADY, DOUBLE, APART, gegenbauer(2, 2), powers_rule(2)]:
            found = searched(made, 6)
            reply = many_formulas(made.rule)
            counts[reply] += 1
            self.assertEqual(judge_formula(made.rule)[0], "formula" if found else "table")
            if reply == "endless":
                self.assertGreater(len(found), 1)
                continue
            self.assertEqual(reply, KINDS[len(found)], made.rule)
            for formula in formulas(made.rule):
                self.assertEqual(sum(are_alike(formula, other) for other in found), 1)
        self.assertGreater(min(counts.values()), 0)
        self.assertGreater(counts["none"], 80)
        self.assertGreater(counts["one"] + counts["two"], 8)

    def test_the_even_places_as_petkovsek_does(self):
        rng = random.Random(704)
        counts = {"laid": 0, "nothing": 0}
        for made in [small_made(rng, 1, with_b=1) for _ in range(40)] + [laid_made(rng) for _ in range(8)]:
            even, reply = Even(made), verdict(made.rule)
            if reply != "formula" and within(even, 6) and len(even.a) + len(even.c) < 8:
                self.assertEqual(reply == "laid", searched(even, 6) != [], made.rule)
                counts[reply] += 1
        self.assertGreater(min(counts.values()), 3)


class Verdicts(unittest.TestCase):
    def test_just_one_verdict_is_right_and_it_is_told(self):
        rng = random.Random(711)
        counts = {"formula": 0, "laid": 0, "nothing": 0}
        mades = [small_made(rng, rng.choice([1, 1, 2])) for _ in range(60)] + [laid_made(rng) for _ in range(10)]
        for made in mades:
            if not both_within(made, 6, 40):
                continue
            judge, reply = VerdictJudge(made), judge_verdict(made.rule)
            self.assertEqual(reply[0], judge.verdict(), made.rule)
            self.assertEqual(verdict(made.rule), reply[0])
            self.assertTrue(judge.holds(reply))
            self.assertIs(verdict_holds(made.rule, reply), True)
            for word in counts:
                self.assertIs(verdict_holds(made.rule, (word,) + reply[1:]), word == reply[0])
            counts[reply[0]] += 1
        self.assertGreater(min(counts.values()), 5)

    def test_formulas_of_the_even_places_or_a_table_and_never_both(self):
        for made in drawn_rules(712, 60):
            if made.b is None or not both_within(made, 12, 40):
                continue
            kind, judge = verdict(made.rule), Judge(Even(made))
            reply = told(even_formula, made.rule)
            self.assertEqual(reply[0] == "answer", kind != "nothing", made.rule)
            if reply[0] == "answer":
                self.assertTrue(solves_by_words(even_rule(made.rule), even_formula(made.rule)))
                shut = tuple(tuple(range(degrees[-1] + 1)) if degrees else "shut" for degrees in judge.degrees)
                table = ("table", shut)
                self.assertFalse(judge.table(table))
                self.assertIs(verdict_holds(made.rule, ("nothing", judge_formula(made.rule), table)), False)
            else:
                self.assertTrue(judge.table(judge_verdict(made.rule)[2]))


class Certificates(unittest.TestCase):
    def test_accepted_exactly_if_they_are_right(self):
        rng = random.Random(721)
        counts = {True: 0, False: 0}
        for made in drawn_rules(722, 60) + [APART, STEADY, DOUBLE]:
            if not within(made, 8):
                continue
            judge, reply = Judge(made), judge_formula(made.rule)
            tried = [reply]
            if reply[0] == "formula":
                tried += [("formula",) + otherwise(rng, reply[1:]), ("formula",) + spoilt(rng, reply[1:])]
            for thing in tried + [changed(rng, each) for each in tried for _ in range(6)]:
                wanted = judge.holds(thing)
                self.assertIs(formula_holds(made.rule, thing), wanted, (made.rule, thing))
                counts[wanted] += 1
        self.assertGreater(min(counts.values()), 60)

    def test_verdicts_accepted_exactly_if_they_are_right(self):
        rng = random.Random(723)
        counts = {True: 0, False: 0}
        mades = [small_made(rng, rng.choice([1, 1, 2])) for _ in range(40)] + [laid_made(rng) for _ in range(8)]
        for made in mades:
            if not both_within(made, 6, 40):
                continue
            judge, reply = VerdictJudge(made), judge_verdict(made.rule)
            for thing in [reply] + [changed(rng, reply) for _ in range(12)]:
                wanted = judge.holds(thing)
                self.assertIs(verdict_holds(made.rule, thing), wanted, (made.rule, thing))
                counts[wanted] += 1
        self.assertGreater(min(counts.values()), 50)


class Rows(unittest.TestCase):
    def test_all_rows_are_exact(self):
        rng = random.Random(731)
        for made in drawn_rules(732, 120):
            start = first_place(made.rule) + rng.randint(0, 5)
            first, second = whole(rng.randint(-9, 9)), rng.choice([whole(rng.randint(-9, 9)), ROOT2, (1, -3, 2, 2)])
            found = row(made.rule, start, first, second, 20)
            self.assertEqual(found, row_by_words(made.rule, start, first, second, 20))
            self.assertIs(keeps(made.rule, start, found), True)

    def test_rows_of_formulas(self):
        many = 0
        for made in drawn_rules(733, 200):
            for formula in formulas(made.rule):
                start = max(first_place(made.rule), formula_place(formula))
                found = formula_row(formula, start, 10)
                self.assertEqual(found, row_by_words(made.rule, start, found[0], found[1], 10))
                self.assertIs(keeps(made.rule, start, found), True)
                many += 1
        self.assertGreater(many, 25)

    def test_two_formulas_stand_apart(self):
        # Rows of formulas that are not alike are no multiples of one another.
        for made in drawn_rules(734, 200) + [STEADY, DOUBLE, gegenbauer(2, 3)]:
            found = formulas(made.rule)
            if len(found) == 2:
                start = max([first_place(made.rule)] + [formula_place(formula) for formula in found])
                one, other = [formula_row(formula, start, 6) for formula in found]
                apart = {number[0] != 0 or number[1] != 0 for number in together(one, other)}
                self.assertIn(True, apart)


def together(one, other):
    """What stands of two rows, where their numbers go together."""
    roots = {number[3] for number in one + other if number[1] != 0}
    return standing(one, other) if len(roots) < 2 else ((1, 0, 1, 1),)


class Lines(unittest.TestCase):
    def test_each_line_that_gives_a_formula_is_told(self):
        for made in drawn_rules(741, 60) + [Made([0], [-1], [-2], (1, -2, 1))]:
            if within(made, 6):
                told_lines = [(base, degrees) for _, base, degrees in lines(made.rule)]
                self.assertEqual(told_lines, [(line.base.number(), line.degrees()) for line in lines_by_words(made)])
                for base, _, polynomial in formulas(made.rule):
                    self.assertTrue(any(each == base and len(polynomial) - 1 in degrees
                                        for each, degrees in told_lines))


if __name__ == "__main__":
    unittest.main()
