"""The examples of the document, word for word."""

import ast
import unittest

from twicestep.errors import StepError

NUMBERS = """
>>> from twicestep.numbers import is_number, number_of, over, plus, root_of, times
>>> [number_of(2, 4, -6, 8), number_of(3, 1, 3, 4), root_of(8, 9), root_of(-1, 4), root_of(9, 4), times((0, 1, 1, 2), (1, 1, 1, 2)), over((1, 0, 1, 1), (1, 1, 1, 2)), is_number((2, 0, 4, 1)), is_number((1, 0, 2, 3))]
[(-1, -4, 3, 2), (5, 0, 3, 1), (0, 2, 3, 2), (0, 1, 2, -1), (3, 0, 2, 1), (2, 1, 1, 2), (-1, 1, 1, 2), False, False]
>>> plus((0, 1, 1, 2), (0, 1, 1, 3))
raises OtherRoot(thing=(0, 1, 1, 3))
"""

POLYNOMIALS = """
>>> from twicestep.polynomials import is_split, poly_at, poly_moved, poly_times, roots
>>> NIL, ONE = (0, 0, 1, 1), (1, 0, 1, 1)
>>> [roots(((-1, 0, 1, 1), ONE, (2, 0, 1, 1))), is_split((ONE, NIL, ONE)), is_split(()), poly_moved((NIL, NIL, ONE), 1), poly_times((ONE, ONE), ((-1, 0, 1, 1), ONE)), poly_at((ONE, ONE), (0, 1, 1, 2))]
[((-1, 1), (1, 2)), False, False, ((1, 0, 1, 1), (2, 0, 1, 1), (1, 0, 1, 1)), ((-1, 0, 1, 1), (0, 0, 1, 1), (1, 0, 1, 1)), (1, 1, 1, 2)]
"""


def shown(expression, names):
    """What an expression gives: an answer, or the error's class and what it carries."""
    try:
        return ("answer", repr(eval(expression, names)))
    except StepError as caught:
        return (type(caught).__name__, repr(caught.thing))


def wanted(line):
    """The same for the line that the document shows below an example."""
    if not line.startswith("raises "):
        return ("answer", repr(ast.literal_eval(line)))
    name, thing = line[len("raises "):].split("(thing=", 1)
    return (name, repr(ast.literal_eval(thing[:-1])))


class Examples(unittest.TestCase):
    def check(self, text):
        names, lines = {}, text.strip().split("\n")
        for at, line in enumerate(lines):
            if not line.startswith(">>> "):
                continue
            if at + 1 < len(lines) and not lines[at + 1].startswith(">>> "):
                self.assertEqual(shown(line[4:], names), wanted(lines[at + 1]), line)
            else:
                exec(line[4:], names)

    def test_numbers(self):
        self.check(NUMBERS)

    def test_polynomials(self):
        self.check(POLYNOMIALS)


if __name__ == "__main__":
    unittest.main()
