"""What several tests need: errors caught, the document's words written out, and values of all kinds."""

import random
from fractions import Fraction
from math import gcd

from twicestep.errors import StepError

NIL = (0, 0, 1, 1)
ONE = (1, 0, 1, 1)
ROOT2 = (0, 1, 1, 2)
ROOT3 = (0, 1, 1, 3)


def whole(k):
    return (k, 0, 1, 1)


def told(call, *values, **named):
    """The answer, or the error's class and what it carries, in a form that tells 1 from True and () from []."""
    before = repr((values, named))
    try:
        reply = ("answer", repr(call(*values, **named)))
    except StepError as caught:
        reply = (type(caught).__name__, repr(caught.thing))
    assert before == repr((values, named)), "an argument was changed"
    return reply


def answer(value):
    return ("answer", repr(value))


def error(kind, thing):
    return (kind.__name__, repr(thing))


# The document's words, written out without regard to speed.

SQUARE_FREE = {}


def square_free(d):
    """Whether no square above 1 divides d, of at most 10 ** 12 in size."""
    rest, k, free = abs(d), 2, True
    if d in SQUARE_FREE:
        return SQUARE_FREE[d]
    while free and k * k <= rest:
        if rest % k == 0:
            rest //= k
            free = rest % k != 0
        k += 1
    SQUARE_FREE[d] = free
    return free


def whole_ones(things):
    return all(type(thing) is int for thing in things)


def number_by_words(thing):
    if type(thing) is not tuple or len(thing) != 4 or not whole_ones(thing):
        return False
    p, q, s, d = thing
    if s < 1 or gcd(p, q, s) > 1:
        return False
    if q == 0:
        return d == 1
    return 0 < abs(d) <= 10 ** 12 and d != 1 and square_free(d)


def together_by_words(one, other):
    return one[1] == 0 or other[1] == 0 or one[3] == other[3]


def polynomial_by_words(thing):
    if type(thing) is not tuple or not all(number_by_words(number) for number in thing):
        return False
    if not all(together_by_words(one, other) for one in thing for other in thing):
        return False
    return thing == () or thing[-1] != NIL


def plain_by_words(thing):
    return polynomial_by_words(thing) and thing != () and all(number[1] == 0 for number in thing)


# Numbers as pairs (a, b) of fractions with a d: a + b root(d).

def pair_of(number):
    p, q, s, _ = number
    return Fraction(p, s), Fraction(q, s)


def number_of_pair(a, b, d):
    """The number a + b root(d), for a d that no square divides."""
    s = a.denominator * b.denominator // gcd(a.denominator, b.denominator)
    return (int(a * s), int(b * s), s, d if b else 1)


def fraction_number(fraction):
    fraction = Fraction(fraction)
    return (fraction.numerator, 0, fraction.denominator, 1)


def plain_polynomial(fractions):
    return tuple(fraction_number(fraction) for fraction in fractions)


def multiplied_out(factors):
    """The list of fractions of a product of lists of fractions."""
    result = [Fraction(1)]
    for factor in factors:
        longer = [Fraction(0)] * (len(result) + len(factor) - 1)
        for i, one in enumerate(result):
            for k, other in enumerate(factor):
                longer[i + k] += one * other
        result = longer
    return result


# Values of all kinds.

def integers_to_try(rng):
    size = rng.choice([3, 3, 3, 100, 10 ** 12, 10 ** 40 - 1])
    return rng.randint(-size, size)


def some_value(rng, depth=0):
    """Any value, as the document describes it."""
    kind = rng.randrange(9 if depth < 12 else 4)
    if kind == 0:
        return integers_to_try(rng)
    if kind == 1:
        return rng.choice(["", "1", "p", "a\nb", "~" * rng.randrange(40), "(1, 0, 1, 1)"])
    if kind == 2:
        return rng.choice([True, False, None])
    if kind == 3:
        return rng.randint(-2, 2)
    many = rng.choice([0, 1, 2, 3, 4, 4, 4])
    parts = [some_value(rng, depth + 1 + rng.randrange(4)) for _ in range(many)]
    if kind < 7:
        return tuple(parts)
    if kind == 7:
        return parts
    return {rng.choice(["a", 1, None, (1, 2)]): part for part in parts}


def changed(rng, thing):
    """A value with some part replaced, left out, exchanged or repeated, or with another kind of brackets."""
    if type(thing) is not tuple or not thing or rng.random() < 0.1:
        return rng.choice([some_value(rng), list(thing) if type(thing) is tuple else [thing], thing])
    at = rng.randrange(len(thing))
    way = rng.randrange(8)
    if way < 3:
        return thing[:at] + (changed(rng, thing[at]),) + thing[at + 1:]
    if way == 3:
        return thing[:at] + thing[at + 1:]
    if way == 4:
        return thing[:at] + (thing[at],) * rng.randrange(2, 5) + thing[at + 1:]
    if way == 5:
        other = rng.randrange(len(thing))
        parts = list(thing)
        parts[at], parts[other] = parts[other], parts[at]
        return tuple(parts)
    if way == 6:
        return thing[:at] + (some_value(rng),) + thing[at + 1:]
    return thing[:at] + (rng.choice([True, False, None, 0, -1, 2, 4, (), []]),) + thing[at + 1:]


def nested(depth):
    thing = 1
    for _ in range(depth):
        thing = (thing,)
    return thing


EDGES = [
    None, True, False, 0, 1, -1, 10 ** 40 - 1, -10 ** 40 + 1, "", "text", "a\nb", "~" * 2000, (), [], {}, (0,), [0],
    {"p": 1}, ((),), [()], ((), ()), nested(12), [[[[[[]]]]]], (1, 0, 1), (1, 0, 1, 1, 1), [1, 0, 1, 1],
    (True, 0, 1, 1), (1, False, 1, 1), (1, 0, True, 1), (1, 0, 1, True), (1, None, 1, 1), ("1", 0, 1, 1),
    ((1,), 0, 1, 1), (0,) * 2900, ((1, 0, 1, 1),) * 500, {(1, 0, 1, 1): 1}, {0: 1, 1: 0, 2: 1, 3: 1}, "1011",
    (10 ** 40 - 1, 0, 1, 1), (1, 0, 10 ** 40 - 1, 1), (1, 1, 1, 10 ** 40 - 1), (1, 10 ** 40 - 1, 1, -2),
    [(1, 0, 1, 1)], ([1, 0, 1, 1],), ((1, 0, 1, True),), ((1, 0, 1, 1), None), (None, (1, 0, 1, 1)),
]


def any_values(seed, many, *kinds):
    """Values of all kinds: edges, what is built at random, and changed ones of the kinds passed."""
    rng = random.Random(seed)
    values = list(EDGES)
    for _ in range(many):
        values.append(some_value(rng))
        if kinds:
            thing = rng.choice(kinds)
            values.append(thing)
            for _ in range(rng.randrange(1, 4)):
                thing = changed(rng, thing)
            values.append(thing)
    return values
