"""Points [6.1] and [6.2]: certificates of formulas and of their absence, and how many formulas there are."""

import random
import unittest
from fractions import Fraction as F
from itertools import combinations

from tests.rule_words import Made, kernel, lines_by_words, multiplied_rule, solves_by_words
from tests.sample_rules import (APART, BARRED, ENDLESS, FACTORIAL, HALF, ONLY_ONE, PAIRS, STEADY, TWO_OF_THEM, WITH,
                                WITHOUT)
from tests.support import EDGES, ONE, ROOT2, answer, any_values, error, nested, told, whole
from tests.surds import numbers_of
from tests.test_formulas import otherwise, spoilt
from tests.test_rules import NO_RULES
from tests.verdict_words import Judge, equations, rank, small_made, within
from twicestep.errors import BadRule
from twicestep.formulas import are_alike, is_formula_of
from twicestep.rules import is_rule
from twicestep.verdict import formula_holds, formulas, judge_formula, many_formulas


class JudgeFormula(unittest.TestCase):
    def check(self, made, kind):
        reply = judge_formula(made.rule)
        self.assertEqual(reply[0], kind)
        judge = Judge(made)
        self.assertIs(judge.formula(reply), kind == "formula", made.rule)
        self.assertIs(judge.table(reply), kind == "table", made.rule)
        self.assertEqual(told(formula_holds, made.rule, reply), answer(True))
        return reply

    def test_rules_with_a_formula(self):
        for made in WITH:
            self.check(made, "formula")
        self.assertTrue(are_alike(judge_formula(APART.rule)[1:], FACTORIAL[1:]))

    def test_rules_without_one(self):
        for made in WITHOUT:
            self.check(made, "table")
        self.assertEqual(told(judge_formula, PAIRS.rule), answer(("table", ())))

    def test_barred_lines(self):
        one = two = with_root = 0
        for made in BARRED:
            self.assertTrue(within(made))
            _, items = self.check(made, "table")
            for line, item in zip(lines_by_words(made), items):
                degrees = line.degrees()
                self.assertEqual(item == "shut", degrees == ())
                if degrees:
                    self.assertEqual(len(item), degrees[-1] + 1)
                    self.assertEqual(rank(equations(line, degrees[-1], item)), degrees[-1] + 1)
                    one, two = one + (len(degrees) == 1), two + (len(degrees) == 2)
                    with_root += line.base.b != 0
        self.assertGreater(min(one, with_root), 7)
        self.assertGreater(two, 2)

    def test_a_formula_behind_barred_lines(self):
        # The first line with degrees is not the first line.
        many = 0
        rng = random.Random(201)
        while many < 8:
            made = small_made(rng)
            if within(made, 8) and Judge(made).gives_formulas():
                self.check(made, "formula")
                first = [bool(line.degrees()) for line in lines_by_words(made)]
                many += first.index(True) > 0

    def test_b_is_0(self):
        self.check(Made([], None, [-1], (1, 1, -1)), "table")
        self.check(Made([], None, [-1, -2], (1, 1, -1)), "formula")
        self.check(Made([], None, [-1, F(-1, 2)], (1, 1, -1)), "table")
        self.check(Made([3], None, [-1], (1, 1, -1)), "formula")
        self.check(Made([2], None, [-1], (1, 1, -1)), "table")

    def test_multiplied_rules(self):
        rng = random.Random(202)
        for made, kind in [(made, "formula") for made in WITH[:3] + TWO_OF_THEM[:4] + ENDLESS[:3]] + [(PAIRS, "table")]:
            for _ in range(3):
                exponents = {F(rng.randint(-4, 4), rng.choice([1, 2])): rng.choice([1, -1])}
                triple = multiplied_rule(made.rule, F(rng.choice([-2, 1, 3]), 2), exponents)
                reply = judge_formula(triple)
                self.assertEqual(reply[0], kind)
                if kind == "formula":
                    self.assertTrue(solves_by_words(triple, reply[1:]))
                self.assertIs(formula_holds(triple, reply), True)


class FormulaHolds(unittest.TestCase):
    def check(self, judge, thing, wanted=None):
        if wanted is None:
            wanted = judge.holds(thing)
        self.assertEqual(told(formula_holds, judge.rule, thing), answer(wanted), (judge.rule, thing))
        return wanted

    def test_formulas_made_otherwise(self):
        rng = random.Random(211)
        for made in WITH:
            judge = Judge(made)
            for formula in formulas(made.rule):
                for _ in range(3):
                    self.check(judge, ("formula",) + otherwise(rng, formula), True)
                    self.check(judge, ("formula",) + spoilt(rng, formula))

    def test_formulas_of_other_rules(self):
        found = [(Judge(made), judge_formula(made.rule)) for made in ONLY_ONE[:3] + TWO_OF_THEM[:4] + ENDLESS[:2]]
        for judge, _ in found:
            for _, thing in found:
                self.check(judge, thing)
        for made in WITHOUT + BARRED[:4]:
            for _, thing in found:
                self.check(Judge(made), thing, False)

    def test_other_equations_that_bar_the_line(self):
        rng = random.Random(212)
        counts = {True: 0, False: 0}
        for made in BARRED:
            judge = Judge(made)
            _, items = judge_formula(made.rule)
            for at, line in enumerate(judge.lines):
                degrees = line.degrees()
                if degrees and degrees[-1] <= 4:
                    last = max(len(part) for part in line.parts) + degrees[-1]
                    choices = list(combinations(range(last + 1), degrees[-1] + 1))
                    for item in rng.sample(choices, min(len(choices), 25)):
                        thing = ("table", items[:at] + (item,) + items[at + 1:])
                        counts[self.check(judge, thing)] += 1
        self.assertGreater(min(counts.values()), 60)

    def test_all_tables_of_a_rule_with_one_open_line(self):
        made = Made([-2, F(3, 2)], [0, 0], [0, HALF], (2, 5, 1))
        judge = Judge(made)
        _, items = judge_formula(made.rule)
        open_at = [at for at, item in enumerate(items) if item != "shut"]
        self.assertEqual(len(open_at), 2)
        counts = {True: 0, False: 0}
        for first in combinations(range(8), 2):
            for second in combinations(range(8), 2):
                changed = list(items)
                changed[open_at[0]], changed[open_at[1]] = first, second
                counts[self.check(judge, ("table", tuple(changed)))] += 1
        self.assertGreater(min(counts.values()), 5)

    def spoilt_items(self, item):
        """Items that bar no line, from one that does."""
        last = item[-1]
        found = [item + (last,), item[:-2] + (last, last), item[:-1], item[1:], item + (last + 1,), (0,) + item,
                 item[:-1] + (999,), item[:-1] + (10 ** 39,),
                 (-1,) + item[1:], (-10 ** 39,) + item[1:], (), "shut", list(item), None, True, 0, "", str(item), {},
                 {j: j for j in item}, (item,), item + (None,), item[:-1] + (str(last),), item[:-1] + ((last,),),
                 item[:-1] + ([last],), item[:-1] + (None,), (False,) + item[1:], item[:-1] + (True,)]
        return found + ([item[::-1], item[1:] + item[:1], item[:1] + item] if len(item) > 1 else [])

    def test_spoilt_items(self):
        for made in BARRED:
            judge = Judge(made)
            _, items = judge_formula(made.rule)
            for at, item in enumerate(items):
                for worse in self.spoilt_items(item) if item != "shut" else []:
                    thing = ("table", items[:at] + (worse,) + items[at + 1:])
                    self.check(judge, thing, False)

    def test_bools_in_the_place_of_integers(self):
        # (0, 1) and (1, 2) are equal to these for Python.
        bars = barred_by(1)
        for made, at, items in bars:
            judge = Judge(made)
            item = items[at]
            for worse in ((False,) + item[1:], item[:1] + (True,), tuple(bool(j) for j in item)):
                self.check(judge, ("table", items[:at] + (worse,) + items[at + 1:]), False)
        for made in BARRED:
            for item in ((False,), (True,), (0, True), (False, 1), (False, True)):
                self.check(Judge(made), ("table", tuple(item for _ in judge_formula(made.rule)[1])), False)

    def test_shut_for_an_open_line_and_an_item_for_a_shut_one(self):
        for made in BARRED + WITHOUT:
            judge = Judge(made)
            _, items = judge_formula(made.rule)
            for at, item in enumerate(items):
                for worse in ("shut",) if item != "shut" else ((), (0,), (0, 1), "Shut", "shut ", "", None, ("shut",),
                                                               ["shut"], False, {}, "open", 0):
                    self.check(judge, ("table", items[:at] + (worse,) + items[at + 1:]), False)

    def test_items_exchanged(self):
        counts = {True: 0, False: 0}
        for made in BARRED:
            judge = Judge(made)
            _, items = judge_formula(made.rule)
            for at, other in combinations(range(len(items)), 2):
                changed = list(items)
                changed[at], changed[other] = items[other], items[at]
                wanted = self.check(judge, ("table", tuple(changed)))
                self.assertEqual(wanted or changed[at] != changed[other], True)
                counts[wanted] += 1
        self.assertGreater(min(counts.values()), 10)

    def test_items_more_or_fewer(self):
        for made in BARRED + WITHOUT:
            judge = Judge(made)
            _, items = judge_formula(made.rule)
            for worse in (items + ("shut",), ("shut",) + items, items + ((0,),), items + ((),), items + items[-1:],
                          items[:-1], items[1:], items + (None,), items * 2, (items,), ()):
                self.check(judge, ("table", worse), worse == items)

    def test_another_word_or_length(self):
        for made in BARRED[:3] + WITHOUT[:3]:
            judge = Judge(made)
            thing = judge_formula(made.rule)
            for worse in ("tables", "Table", "formula", "", None, 0, True, ("table",), ["table"], "table "):
                self.check(judge, (worse,) + thing[1:], False)
            for worse in (thing + ((),), thing[:1], thing[1:], thing + thing, list(thing), ("table", list(thing[1])),
                          [list(thing)], {"table": thing[1]}, thing[::-1], (thing,), ("table",) + thing[1] + ((), ()),
                          "table", ()):
                self.check(judge, worse, False)
        for made in WITH[:4] + TWO_OF_THEM[:3]:
            judge = Judge(made)
            thing = judge_formula(made.rule)
            for worse in ("formulas", "Formula", "table", "", None, 0, ("formula",), ["formula"]):
                self.check(judge, (worse,) + thing[1:], False)
            for worse in (thing + ((),), thing[:3], thing[1:], list(thing), ("formula", thing[1:]), (thing,),
                          ("formula",), ("formula", list(thing[1])) + thing[2:], thing[:3] + (list(thing[3]),),
                          thing[:2] + (list(thing[2]), thing[3]), thing[:1] + thing[:0:-1]):
                self.check(judge, worse, False)

    def test_never_a_table_where_there_is_a_formula(self):
        rng = random.Random(213)
        for made in WITH:
            if not within(made):
                continue
            judge = Judge(made)
            for _ in range(6):
                items = []
                for line in judge.lines:
                    degrees = line.degrees()
                    if degrees:
                        last = max(len(part) for part in line.parts) + degrees[-1]
                        items.append(tuple(sorted(rng.sample(range(last + 1), degrees[-1] + 1))))
                    else:
                        items.append("shut")
                self.check(judge, ("table", tuple(items)), False)
            self.check(judge, ("table", ("shut",) * len(judge.lines)), False)

    def test_a_rule_without_lines(self):
        judge = Judge(PAIRS)
        self.check(judge, ("table", ()), True)
        for worse in (("table", ("shut",)), ("table", []), ("table",), ("table", None), ("table", ((),)), ("table", ""),
                      ("table", "shut"), ("table", {}), ("table", (), ()), ("table", False), FACTORIAL):
            self.check(judge, worse, False)

    def test_any_value(self):
        counts = {True: 0, False: 0}
        rng = random.Random(214)
        for seed, made in enumerate([APART, STEADY, PAIRS, WITHOUT[5]] + BARRED[:5]):
            judge = Judge(made)
            reply = judge_formula(made.rule)
            kinds = [reply] * 2 + [FACTORIAL]
            if reply[0] == "formula":
                kinds += [("formula",) + otherwise(rng, reply[1:]), judge_formula(BARRED[0].rule)]
            for thing in any_values(215 + seed, 120, *kinds):
                counts[self.check(judge, thing)] += 1
        self.assertGreater(min(counts.values()), 500)

    def test_nested(self):
        for thing in (nested(12), ("table", nested(11)), ("formula", nested(11), (), (ONE,)), ("table", (nested(10),))):
            for made in (APART, PAIRS, BARRED[0]):
                self.check(Judge(made), thing, False)


def barred_by(degree):
    """Triples of a rule without formulas, the place of a line, of a greatest degree, that is barred, and all items."""
    found = []
    for made in BARRED:
        _, items = judge_formula(made.rule)
        found += [(made, at, items) for at, item in enumerate(items) if item != "shut" and len(item) == degree + 1]
    assert found
    return found


class ManyFormulas(unittest.TestCase):
    def check(self, made, wanted):
        self.assertEqual(told(many_formulas, made.rule), answer(wanted), made.rule)
        found = formulas(made.rule)
        self.assertIs(type(found), tuple)
        self.assertEqual(len(found), {"none": 0, "one": 1, "two": 2, "endless": 2}[wanted])
        by_words = [(line.base.number(), line.powers) for line in lines_by_words(made)]
        places = []
        for formula in found:
            self.assertTrue(is_formula_of(made.rule, formula))
            self.assertTrue(solves_by_words(made.rule, formula))
            self.assertEqual(formula[2][-1], ONE)
            places += [at for at, each in enumerate(by_words) if each == formula[:2]]
        self.assertEqual(len(places), len(found))
        self.assertEqual(places, sorted(places))
        if wanted == "two":
            self.assertLess(places[0], places[1])
        if len(found) == 2:
            self.assertIs(are_alike(*found), False)

    def test_none(self):
        for made in WITHOUT + BARRED:
            self.check(made, "none")

    def test_one(self):
        for made in ONLY_ONE:
            self.check(made, "one")

    def test_two(self):
        for made in TWO_OF_THEM:
            self.check(made, "two")

    def test_endless(self):
        for made in ENDLESS:
            self.check(made, "endless")

    def test_formulas_in_numbers(self):
        self.assertEqual(told(formulas, PAIRS.rule), answer(()))
        self.assertEqual(told(formulas, APART.rule), answer(((ONE, (((-1, 1), 1),), (ONE,)),)))
        self.assertEqual(told(formulas, STEADY.rule),
                         answer((((1, 1, 2, 5), (), (ONE,)), ((1, -1, 2, 5), (), (ONE,)))))
        self.assertEqual(told(formulas, Made([], [], [], (2, -6, 4)).rule),
                         answer(((whole(2), (), (ONE,)), (ONE, (), (ONE,)))))
        self.assertEqual(told(formulas, Made([], None, [], (1, 1, -2)).rule),
                         answer(((ROOT2, (), (ONE,)), ((0, -1, 1, 2), (), (ONE,)))))
        # y(n + 2) = (n + 1) n y(n).
        self.assertEqual(told(formulas, Made([], None, [-1, 0], (1, 1, -1)).rule),
                         answer(((ONE, (((0, 1), 1),), (ONE,)), (whole(-1), (((0, 1), 1),), (ONE,)))))

    def test_endless_gives_each_degree(self):
        for made in ENDLESS:
            lines = [line for line in lines_by_words(made) if len(line.degrees()) == 2]
            basis = [kernel(line, line.degrees()[-1]) for line in lines]
            wanted = sorted(len(polynomial) for found in basis for polynomial in found)
            self.assertEqual(sorted(len(formula[2]) for formula in formulas(made.rule)), wanted)
            self.assertEqual(len(set(wanted)), 2)

    def test_kernel_is_what_is_told(self):
        for made in ONLY_ONE + TWO_OF_THEM:
            if not within(made, 6):
                continue
            wanted = []
            for line in lines_by_words(made):
                for polynomial in kernel(line, line.degrees()[-1]) if line.degrees() else []:
                    lead = polynomial[-1]
                    wanted.append((line.base.number(), line.powers, numbers_of([each / lead for each in polynomial])))
            self.assertEqual(told(formulas, made.rule), answer(tuple(wanted)))


class Errors(unittest.TestCase):
    def test_bad_rule(self):
        for bad in NO_RULES + EDGES:
            for call in (judge_formula, many_formulas, formulas):
                self.assertEqual(told(call, bad), error(BadRule, bad))
            for thing in (FACTORIAL, ("table", ()), None, [], ("formula",)):
                self.assertEqual(told(formula_holds, bad, thing), error(BadRule, bad))

    def test_bad_rule_of_any_value(self):
        for thing in any_values(231, 200, APART.rule, STEADY.rule, BARRED[0].rule):
            if not is_rule(thing):
                for found in (told(judge_formula, thing), told(many_formulas, thing), told(formulas, thing),
                              told(formula_holds, thing, FACTORIAL), told(formula_holds, thing, ("table", ()))):
                    self.assertEqual(found, error(BadRule, thing))


class ByName(unittest.TestCase):
    def test_position_and_name(self):
        for rule in [APART.rule, STEADY.rule, PAIRS.rule, BARRED[0].rule] + NO_RULES:
            for call in (judge_formula, many_formulas, formulas):
                self.assertEqual(told(call, rule=rule), told(call, rule))
            for thing in (FACTORIAL, ("table", ()), None):
                wanted = told(formula_holds, rule, thing)
                self.assertEqual(told(formula_holds, rule=rule, thing=thing), wanted)
                self.assertEqual(told(formula_holds, thing=thing, rule=rule), wanted)
                self.assertEqual(told(formula_holds, rule, thing=thing), wanted)

    def test_the_same_call_gives_the_same(self):
        for made in [APART, STEADY, PAIRS] + BARRED[:4]:
            for call in (judge_formula, many_formulas, formulas):
                self.assertEqual(len({told(call, made.rule) for _ in range(3)}), 1)


if __name__ == "__main__":
    unittest.main()
