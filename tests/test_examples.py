"""The examples of the document, word for word."""

import ast
import unittest

from twicestep.errors import StepError

NUMBERS = """
>>> from twicestep.numbers import is_number, number_of, over, plus, root_of, times
>>> [number_of(2, 4, -6, 8), number_of(3, 1, 3, 4), root_of(8, 9), root_of(-1, 4), root_of(9, 4), times((0, 1, 1, 2), (1, 1, 1, 2)), over((1, 0, 1, 1), (1, 1, 1, 2)), is_number((2, 0, 4, 1)), is_number((1, 0, 2, 3))]
[(-1, -4, 3, 2), (5, 0, 3, 1), (0, 2, 3, 2), (0, 1, 2, -1), (3, 0, 2, 1), (2, 1, 1, 2), (-1, 1, 1, 2), False, False]
>>> plus((0, 1, 1, 2), (0, 1, 1, 3))
raises OtherRoot(thing=(0, 1, 1, 3))
"""

POLYNOMIALS = """
>>> from twicestep.polynomials import is_split, poly_at, poly_moved, poly_times, roots
>>> NIL, ONE = (0, 0, 1, 1), (1, 0, 1, 1)
>>> [roots(((-1, 0, 1, 1), ONE, (2, 0, 1, 1))), is_split((ONE, NIL, ONE)), is_split(()), poly_moved((NIL, NIL, ONE), 1), poly_times((ONE, ONE), ((-1, 0, 1, 1), ONE)), poly_at((ONE, ONE), (0, 1, 1, 2))]
[((-1, 1), (1, 2)), False, False, ((1, 0, 1, 1), (2, 0, 1, 1), (1, 0, 1, 1)), ((-1, 0, 1, 1), (0, 0, 1, 1), (1, 0, 1, 1)), (1, 1, 1, 2)]
"""

RULES = """
>>> from twicestep.rules import first_place, is_rule, keeps, row, standing
>>> ONE, LESS = (1, 0, 1, 1), (-1, 0, 1, 1)
>>> APART = ((ONE,), (LESS, LESS), (LESS, LESS))
>>> [is_rule(APART), first_place(APART), first_place(((LESS, ONE), (), (ONE,))), [p for p, q, s, d in row(APART, 0, ONE, (0, 0, 1, 1), 7)], keeps(APART, 0, row(APART, 0, ONE, ONE, 5))]
[True, 0, 2, [1, 0, 1, 2, 9, 44, 265], True]
>>> standing(row(APART, 0, ONE, ONE, 4), row(APART, 0, ONE, (0, 0, 1, 1), 4))
((-1, 0, 1, 1), (1, 0, 1, 1), (-2, 0, 1, 1))
"""

FORMULAS = """
>>> from twicestep.formulas import are_alike, formula_row, is_formula, is_formula_of
>>> NIL, ONE, LESS = (0, 0, 1, 1), (1, 0, 1, 1), (-1, 0, 1, 1)
>>> APART = ((ONE,), (LESS, LESS), (LESS, LESS))
>>> FACTORIAL = (ONE, (((-1, 1), 1),), (ONE,))
>>> OTHERWISE = (ONE, (((0, 1), 1),), (NIL, ONE))
>>> [is_formula_of(APART, FACTORIAL), is_formula_of(APART, OTHERWISE), are_alike(FACTORIAL, OTHERWISE), [p for p, q, s, d in formula_row(FACTORIAL, 0, 6)], is_formula((NIL, (), (ONE,)))]
[True, True, True, [1, 1, 2, 6, 24, 120], False]
"""

LINES = """
>>> from twicestep.lines import choice, classes, equation, lines
>>> ONE, LESS = (1, 0, 1, 1), (-1, 0, 1, 1)
>>> APART = ((ONE,), (LESS, LESS), (LESS, LESS))
>>> [classes(APART), choice(APART, (0, 1), 0), choice(APART, (0, 1), 1), lines(APART), equation(APART, 1, 0, 1)]
[(((0, 1), (1, 0)),), (), (((-1, 1), 1),), (((0,), (-1, 0, 1, 1), ()), ((1,), (1, 0, 1, 1), (0,))), ((0, 0, 1, 1),)]
>>> [classes((((1, 0, 2, 1), ONE), (ONE,), (LESS, ONE))), lines(((ONE,), (LESS,), (LESS,)))]
[(((0, 1), (1, 0)), ((1, 2), (0, 1))), (((), (1, 1, 2, 5), (0,)), ((), (1, -1, 2, 5), (0,)))]
"""

VERDICTS = """
>>> from twicestep.verdict import even_rule, formula_holds, judge_formula, judge_verdict, many_formulas, verdict
>>> ONE, LESS = (1, 0, 1, 1), (-1, 0, 1, 1)
>>> APART = ((ONE,), (LESS, LESS), (LESS, LESS))
>>> PAIRS = ((ONE,), (LESS,), (LESS, LESS))
>>> [verdict(APART), many_formulas(APART), judge_formula(APART)[0], formula_holds(APART, ('formula', ONE, (((-1, 1), 1),), (ONE,))), verdict(PAIRS), verdict(((ONE,), (), (LESS, LESS)))]
['formula', 'one', 'formula', True, 'nothing', 'laid']
>>> [even_rule(PAIRS), judge_verdict(PAIRS)]
[(((-1, 0, 1, 1),), ((6, 0, 1, 1), (4, 0, 1, 1)), ((-2, 0, 1, 1), (-6, 0, 1, 1), (-4, 0, 1, 1))), ('nothing', ('table', ()), ('table', ('shut', 'shut')))]
>>> [verdict(((LESS, ONE), (ONE,), ((0, 0, 1, 1), (0, 0, 1, 1), LESS))), many_formulas(((ONE,), ((-2, 0, 1, 1),), (ONE,)))]
['laid', 'endless']
"""

CHANGES = """
>>> from twicestep.changes import moved, multiplied, turned
>>> ONE, TWO, LESS = (1, 0, 1, 1), (2, 0, 1, 1), (-1, 0, 1, 1)
>>> APART = ((ONE,), (LESS, LESS), (LESS, LESS))
>>> [moved(APART, 1), turned(APART), turned(turned(APART)) == APART, multiplied(APART, (TWO, ()))]
[(((1, 0, 1, 1),), ((-2, 0, 1, 1), (-1, 0, 1, 1)), ((-2, 0, 1, 1), (-1, 0, 1, 1))), (((1, 0, 1, 1), (1, 0, 1, 1)), ((1, 0, 1, 1), (1, 0, 1, 1)), ((1, 0, 1, 1),)), True, (((1, 0, 1, 1),), ((-2, 0, 1, 1), (-2, 0, 1, 1)), ((-4, 0, 1, 1), (-4, 0, 1, 1)))]
"""

NAMED = """
>>> from twicestep.named import bessel_verdict, charlier, charlier_verdict, gegenbauer_verdict, hermite, hermite_verdict, laguerre_verdict, meixner_verdict, steady, steady_verdict
>>> [steady((1, 1), (1, 1)), hermite((1, 2), (1, 3)), charlier((0, 1), (2, 1))]
[(((1, 0, 1, 1),), ((-1, 0, 1, 1),), ((-1, 0, 1, 1),)), (((1, 0, 1, 1),), ((-1, 0, 2, 1),), ((-1, 0, 3, 1), (-1, 0, 1, 1))), (((2, 0, 1, 1),), ((-3, 0, 1, 1), (-1, 0, 1, 1)), ((1, 0, 1, 1), (1, 0, 1, 1)))]
>>> [steady_verdict((1, 1), (1, 1)), hermite_verdict((0, 1), (1, 3)), bessel_verdict((2, 1), (1, 2), (-1, 1)), gegenbauer_verdict((3, 1), (1, 2)), gegenbauer_verdict((3, 1), (2, 1)), gegenbauer_verdict((0, 1), (1, 2)), laguerre_verdict((1, 1), (0, 1)), charlier_verdict((-2, 1), (1, 3)), meixner_verdict((1, 4), (1, 2), (-1, 1)), meixner_verdict((1, 4), (1, 2), (2, 1))]
['formula', 'laid', 'nothing', 'nothing', 'formula', 'laid', 'nothing', 'formula', 'laid', 'nothing']
"""


def shown(expression, names):
    """What an expression gives: an answer, or the error's class and what it carries."""
    try:
        return ("answer", repr(eval(expression, names)))
    except StepError as caught:
        return (type(caught).__name__, repr(caught.thing))


def wanted(line):
    """The same for the line that the document shows below an example."""
    if not line.startswith("raises "):
        return ("answer", repr(ast.literal_eval(line)))
    name, thing = line[len("raises "):].split("(thing=", 1)
    return (name, repr(ast.literal_eval(thing[:-1])))


class Examples(unittest.TestCase):
    def check(self, text):
        names, lines = {}, text.strip().split("\n")
        for at, line in enumerate(lines):
            if not line.startswith(">>> "):
                continue
            if at + 1 < len(lines) and not lines[at + 1].startswith(">>> "):
                self.assertEqual(shown(line[4:], names), wanted(lines[at + 1]), line)
            else:
                exec(line[4:], names)

    def test_numbers(self):
        self.check(NUMBERS)

    def test_polynomials(self):
        self.check(POLYNOMIALS)

    def test_rules(self):
        self.check(RULES)

    def test_formulas(self):
        self.check(FORMULAS)

    def test_lines(self):
        self.check(LINES)

    def test_verdicts(self):
        self.check(VERDICTS)

    def test_changes(self):
        self.check(CHANGES)

    def test_named(self):
        self.check(NAMED)


if __name__ == "__main__":
    unittest.main()
