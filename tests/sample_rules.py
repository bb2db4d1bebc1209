"""Rules to try: without formulas, with one, two and endlessly many of them, laid ones and others."""

from fractions import Fraction as F

from tests.rule_words import Made
from tests.support import ONE

HALF = F(1, 2)
APART = Made([], [-1], [-1], (1, -1, -1))
PAIRS = Made([], [], [-1], (1, -1, -1))
STEADY = Made([], [], [], (1, -1, -1))
DOUBLE = Made([], [], [], (1, -2, 1))
FACTORIAL = ("formula", ONE, (((-1, 1), 1),), (ONE,))


def powers_rule(x):
    """2 y(n + 2) = (n + 3 - x) y(n + 1) - (n + 1) y(n): a polynomial of degree x keeps it."""
    return Made([], [x - 3], [-1], (2, -1, 1))


def gegenbauer(x, l):
    """(n + 2) y(n + 2) = 2 x (n + 1 + l) y(n + 1) - (n + 2 l) y(n)."""
    return Made([-2], [-1 - l], [-2 * l], (1, -2 * x, 1))


WITHOUT = [
    PAIRS, Made([], None, [0], (1, 1, -1)), Made([0], None, [], (2, 1, 3)), Made([], [], [0], (1, -1, -1)),
    Made([1], [], [0, 0], (1, 1, -1)), Made([HALF], [F(1, 3)], [0], (1, -1, -1)), Made([], [], [0], (1, -3, -1)),
    gegenbauer(2, HALF), gegenbauer(HALF, F(1, 3)), Made([0, HALF], None, [F(1, 3), 5], (1, 1, 1)),
]
# Lines with degrees, but no formulas: of degree 0 and above, with two degrees, with bases that have a root.
BARRED = [
    Made([-1, 1], [0, 1], [F(-1, 2), 2], (-3, 5, -2)), Made([-2, F(3, 2)], [0, 0], [0, HALF], (2, 5, 1)),
    Made([-1, 1], [0, 2], [2, 2], (1, -1, 1)), Made([-1, 0, 1], [F(-1, 2), -1, 2], [-2, 1, 2], (1, -2, 1)),
    Made([-1, 0, 0], [-1, -1, 1], [-2, 0, 1], (1, -2, 1)),
    Made([-1, -1, 0], [3, 2, -1], [F(-3, 2), -1, 2], (1, -1, -2)),
    Made([-HALF, 0, F(3, 2)], [F(-1, 4), HALF, 0], [-1, -HALF, 1], (1, -2, 1)),
    Made([-HALF, 1, 2], [F(-5, 2), 1, 1], [-2, -1, -HALF], (1, -2, 1)),
    Made([-1, -HALF, HALF], [2, -1, 1], [1, 1, 3], (1, 5, 2)),
    Made([1, 1, 2], [-2, 3, -1], [-2, F(-3, 2), -HALF], (-3, 2, -2)),
    Made([-2, 0, 1], [HALF, 0, 0], [-1, 1, 2], (1, -2, 1)), Made([-2, 1], [-1, -1], [-1, 2], (2, -3, 1)),
]
ONLY_ONE = [APART, Made([-2], [F(-3, 2)], [-1], (1, -2, 1)), powers_rule(0), powers_rule(3), powers_rule(12),
            Made([-2, HALF, -HALF], [F(-3, 2), HALF], [-1], (1, -2, 1))]
TWO_OF_THEM = [STEADY, Made([], [], [], (1, -3, 2)), Made([], None, [], (1, 1, -2)), Made([], None, [], (1, 1, 1)),
               Made([], None, [0, -1], (1, 1, -3)), gegenbauer(2, 1), gegenbauer(2, 2), gegenbauer(F(3, 4), 3),
               gegenbauer(3, 13), gegenbauer(HALF, 4), Made([0], None, [2], (1, 1, -4))]
ENDLESS = [DOUBLE, Made([], [], [], (4, -4, 1)), Made([0], [-1], [-2], (1, -2, 1)),
           Made([-2], [-7], [-12], (1, -2, 1)), Made([-2, -1], [-2, 0], [-2, 1], (3, -6, 3)),
           Made([-2, 1], [-2, 1], [-2, 1], (1, -2, 1)), gegenbauer(1, 1), gegenbauer(-1, 3)]
WITH = ONLY_ONE + TWO_OF_THEM + ENDLESS

LAID_WITHOUT_B = [Made([], None, [-1], (1, 1, -1)), Made([0], None, [], (2, 1, 3)),
                  Made([0], None, [F(3, 2)], (2, 1, 3)), Made([0, HALF], None, [F(1, 3)], (1, 1, 1))]
LAID_WITH_B = [Made([1], [], [0, 0], (1, 1, -1)), Made([F(-3, 2)], [], [-1], (-1, 1, 1))]
NOTHING = [PAIRS, Made([], [], [0], (1, -3, -1)), Made([HALF], [F(1, 3)], [0], (1, -1, -1)), gegenbauer(2, HALF)]
