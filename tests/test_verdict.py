"""Point [6.4]: the verdict and its certificates."""

import random
import unittest
from itertools import combinations

from tests.sample_rules import (APART, BARRED, DOUBLE, LAID_WITH_B, LAID_WITHOUT_B, NOTHING, ONLY_ONE, PAIRS, STEADY,
                                WITH, gegenbauer)
from tests.support import EDGES, ONE, answer, any_values, error, nested, told
from tests.test_formulas import otherwise, spoilt
from tests.test_rules import NO_RULES
from tests.verdict_words import VerdictJudge, both_within, laid_made
from twicestep.errors import BadRule
from twicestep.rules import is_rule
from twicestep.verdict import judge_formula, judge_verdict, verdict, verdict_holds

WITH_VERDICT = [made for made in WITH if len(made.a) < 3 and len(made.c) < 3 and both_within(made)]
BARRED_TWICE = [made for made in BARRED if len(made.a) < 3 and both_within(made)]
ALL = WITH_VERDICT + LAID_WITHOUT_B + LAID_WITH_B + NOTHING + BARRED_TWICE
JUDGES = {}


def judge_of(made):
    if made not in JUDGES:
        JUDGES[made] = VerdictJudge(made)
    return JUDGES[made]


def tables_otherwise(rng, judge, thing):
    """Tables like a right one with other equations, in one line that has degrees: right ones and wrong ones."""
    found = []
    for at, (line, degrees) in enumerate(zip(judge.lines, judge.degrees)):
        if degrees and degrees[-1] < 5:
            last = max(len(part) for part in line.parts) + degrees[-1]
            choices = list(combinations(range(last), degrees[-1] + 1))
            for item in rng.sample(choices, min(len(choices), 6)):
                found.append(("table", thing[1][:at] + (item,) + thing[1][at + 1:]))
    return found


class Verdict(unittest.TestCase):
    def check(self, made, wanted):
        judge = judge_of(made)
        self.assertEqual(told(verdict, made.rule), answer(wanted), made.rule)
        reply = judge_verdict(made.rule)
        self.assertEqual(reply[0], wanted)
        self.assertTrue(judge.holds(reply), (made.rule, reply))
        self.assertEqual(told(verdict_holds, made.rule, reply), answer(True))
        return reply

    def test_formula(self):
        self.assertGreater(len(WITH_VERDICT), 15)
        for made in WITH_VERDICT:
            reply = self.check(made, "formula")
            self.assertEqual((len(reply), reply[1][0]), (2, "formula"))

    def test_laid_with_b_being_0(self):
        for made in LAID_WITHOUT_B:
            reply = self.check(made, "laid")
            self.assertEqual((len(reply), reply[1][0], repr(reply[2])), (3, "table", "()"))

    def test_laid_with_b_other_than_0(self):
        rng = random.Random(401)
        for made in LAID_WITH_B + [laid_made(rng) for _ in range(12)]:
            if both_within(made):
                reply = self.check(made, "laid")
                self.assertEqual((len(reply), reply[1][0], reply[2][0]), (3, "table", "formula"))

    def test_nothing(self):
        self.assertGreater(len(BARRED_TWICE), 2)
        for made in NOTHING + BARRED_TWICE:
            reply = self.check(made, "nothing")
            self.assertEqual((len(reply), reply[1][0], reply[2][0]), (3, "table", "table"))

    def test_by_the_words(self):
        for made in ALL:
            self.assertEqual(verdict(made.rule), judge_of(made).verdict())


class VerdictHolds(unittest.TestCase):
    def check(self, made, thing, wanted=None):
        if wanted is None:
            wanted = judge_of(made).holds(thing)
        self.assertEqual(told(verdict_holds, made.rule, thing), answer(wanted), (made.rule, thing))
        return wanted

    def test_formulas_made_otherwise(self):
        rng = random.Random(411)
        for made in WITH_VERDICT:
            formula = judge_verdict(made.rule)[1][1:]
            for _ in range(3):
                self.check(made, ("formula", ("formula",) + otherwise(rng, formula)), True)
                self.check(made, ("formula", ("formula",) + spoilt(rng, formula)))
        for made in LAID_WITH_B:
            _, barred, even = judge_verdict(made.rule)
            counts = {True: 0, False: 0}
            for _ in range(12):
                self.check(made, ("laid", barred, ("formula",) + otherwise(rng, even[1:])), True)
                counts[self.check(made, ("laid", barred, ("formula",) + spoilt(rng, even[1:])))] += 1
            self.assertGreater(counts[False], 6)

    def test_tables_made_otherwise(self):
        rng = random.Random(412)
        counts = {True: 0, False: 0}
        for made in LAID_WITHOUT_B + LAID_WITH_B + NOTHING + BARRED_TWICE:
            word, barred, even = judge_verdict(made.rule)
            for thing in tables_otherwise(rng, judge_of(made).own, barred):
                counts[self.check(made, (word, thing, even))] += 1
            if word == "nothing":
                for thing in tables_otherwise(rng, judge_of(made).even, even):
                    counts[self.check(made, (word, barred, thing))] += 1
        self.assertGreater(min(counts.values()), 20)

    def test_another_kind_with_the_same_papers(self):
        for made in ALL:
            thing = judge_verdict(made.rule)
            for word in ("formula", "laid", "nothing", "table", "Laid", "", None, 0, ("laid",), ["nothing"]):
                self.check(made, (word,) + thing[1:], word == thing[0])

    def test_papers_exchanged(self):
        for made in ALL:
            thing = judge_verdict(made.rule)
            if thing[0] != "formula":
                for word in ("laid", "nothing", "formula"):
                    self.check(made, (word, thing[2], thing[1]))
                    self.check(made, (word, thing[1], thing[1]))
                    self.check(made, (word, thing[2], thing[2]))
        # The two tables of a rule and of its rule of the even places are not the same.
        _, barred, even = judge_verdict(PAIRS.rule)
        self.check(PAIRS, ("nothing", even, barred), False)

    def test_one_left_out_or_added(self):
        for made in ALL:
            thing = judge_verdict(made.rule)
            for worse in (thing[:-1], thing[:1], thing[:1] + thing[2:], thing[1:], thing + ((),), thing + thing[1:],
                          thing + (None,), thing[:1] + ((),) + thing[1:], thing[:1] + thing, (thing,), list(thing),
                          thing[:1] + (thing[1:],), thing[::-1], {thing[0]: thing[1:]}):
                self.check(made, worse, False)

    def test_nothing_where_a_paper_is_due(self):
        for made in ALL:
            thing = judge_verdict(made.rule)
            for at in range(1, len(thing)):
                for worse in ((), None, [], "", 0, False, "shut", "table", ("table",), ("formula",), {},
                              list(thing[at]), (thing[at],), thing[at][1:], thing[at] + ((),)):
                    if repr(worse) != repr(thing[at]):
                        self.check(made, thing[:at] + (worse,) + thing[at + 1:], False)

    def test_a_paper_where_there_is_none_due(self):
        papers = [judge_formula(made.rule) for made in (APART, STEADY, PAIRS)]
        for made in LAID_WITHOUT_B:
            word, barred, _ = judge_verdict(made.rule)
            for paper in papers + [barred, ("table", ()), (None,), ((),), [], None, False, "", 0, {}]:
                self.check(made, (word, barred, paper), False)
            for paper in papers + [barred, (), None]:
                self.check(made, ("nothing", barred, paper), False)

    def test_papers_of_another_rule(self):
        found = [judge_verdict(made.rule) for made in ALL]
        for made in ALL:
            word = judge_verdict(made.rule)[0]
            for thing in found:
                if thing[0] == word:
                    self.check(made, thing)
                    if word != "formula":
                        own = judge_verdict(made.rule)
                        self.check(made, own[:2] + thing[2:])
                        self.check(made, (word, thing[1], own[2]))

    def test_formulas_in_the_place_of_tables_and_the_other_way_round(self):
        for made in ALL:
            thing = judge_verdict(made.rule)
            for paper in (("formula", ONE, (((-1, 1), 1),), (ONE,)), ("table", ()), ("table", ("shut",)),
                          ("table", ("shut", "shut")), ("formula", ONE, (), (ONE,))):
                for at in range(1, len(thing)):
                    self.check(made, thing[:at] + (paper,) + thing[at + 1:])

    def test_never_two_kinds(self):
        # A rule with a formula has no table, and so no other verdict; its even places have a formula.
        for made in WITH_VERDICT:
            items = tuple(tuple(range(degrees[-1] + 1)) if degrees else "shut"
                          for degrees in judge_of(made).own.degrees)
            formula = judge_verdict(made.rule)[1]
            for barred in (("table", items), ("table", ("shut",) * len(items)), formula, ()):
                for even in ((), formula, ("table", ()), ("table", items)):
                    self.check(made, ("laid", barred, even), False)
                    self.check(made, ("nothing", barred, even), False)

    def test_any_value(self):
        counts = {True: 0, False: 0}
        for seed, made in enumerate([APART, STEADY, PAIRS] + LAID_WITHOUT_B[:2] + LAID_WITH_B + NOTHING[1:]):
            thing = judge_verdict(made.rule)
            for value in any_values(420 + seed, 100, thing, thing, ("formula", judge_formula(APART.rule))):
                counts[self.check(made, value)] += 1
        self.assertGreater(min(counts.values()), 400)

    def test_nested(self):
        for made in (APART, PAIRS, LAID_WITHOUT_B[0], LAID_WITH_B[0]):
            for thing in (nested(12), ("formula", nested(11)), ("laid", nested(11), ()), ("nothing", nested(11), ()),
                          ("laid", ("table", nested(10)), ()), ("nothing", ("table", ()), ("table", nested(10)))):
                self.check(made, thing, False)


class Errors(unittest.TestCase):
    def test_bad_rule(self):
        for bad in NO_RULES + EDGES:
            for call in (verdict, judge_verdict):
                self.assertEqual(told(call, bad), error(BadRule, bad))
            for thing in (judge_verdict(APART.rule), ("laid", ("table", ()), ()), None, (), []):
                self.assertEqual(told(verdict_holds, bad, thing), error(BadRule, bad))

    def test_bad_rule_of_any_value(self):
        for thing in any_values(431, 200, APART.rule, LAID_WITHOUT_B[0].rule, PAIRS.rule):
            if not is_rule(thing):
                for found in (told(verdict, thing), told(judge_verdict, thing), told(verdict_holds, thing, ()),
                              told(verdict_holds, thing, judge_verdict(PAIRS.rule))):
                    self.assertEqual(found, error(BadRule, thing))


class ByName(unittest.TestCase):
    def test_position_and_name(self):
        for rule in [made.rule for made in (APART, PAIRS, LAID_WITH_B[0], LAID_WITHOUT_B[0])] + NO_RULES:
            for call in (verdict, judge_verdict):
                self.assertEqual(told(call, rule=rule), told(call, rule))
            for thing in (judge_verdict(APART.rule), judge_verdict(PAIRS.rule), None):
                wanted = told(verdict_holds, rule, thing)
                self.assertEqual(told(verdict_holds, rule=rule, thing=thing), wanted)
                self.assertEqual(told(verdict_holds, thing=thing, rule=rule), wanted)
                self.assertEqual(told(verdict_holds, rule, thing=thing), wanted)

    def test_the_same_call_gives_the_same(self):
        for made in (APART, PAIRS, DOUBLE, LAID_WITH_B[0], LAID_WITHOUT_B[0], ONLY_ONE[1], gegenbauer(2, 2)):
            for call in (verdict, judge_verdict):
                self.assertEqual(len({told(call, made.rule) for _ in range(3)}), 1)


if __name__ == "__main__":
    unittest.main()
