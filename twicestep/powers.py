"""Powers: tuples of pairs (fraction pair, integer other than 0), ascending by the fractions, no fraction twice.

Each pair (r, e) stands for (n - r) ** e. Exponents are dicts of the same, in any order and with exponents 0, too.
"""

from twicestep.fraction_pairs import ascending, is_fraction_pair, is_less, pair_plus
from twicestep.integers import is_whole


def are_powers(thing):
    """Whether any value is powers."""
    if not isinstance(thing, tuple) or not all(is_power(power) for power in thing):
        return False
    return all(is_less(one[0], other[0]) for one, other in zip(thing, thing[1:]))


def is_power(thing):
    """Whether any value is a pair of a fraction pair and an integer other than 0."""
    if not isinstance(thing, tuple) or len(thing) != 2:
        return False
    return is_fraction_pair(thing[0]) and is_whole(thing[1]) and thing[1] != 0


def exponents_of(powers):
    """The exponents of powers."""
    return {pair: exponent for pair, exponent in powers}


def powers_of(exponents):
    """The powers of exponents."""
    kept = [pair for pair in exponents if exponents[pair] != 0]
    return tuple([(pair, exponents[pair]) for pair in ascending(kept)])


def exponents_sum(one, other):
    """The exponents of the product of two."""
    total = {pair: exponent for pair, exponent in one.items()}
    for pair, exponent in other.items():
        total[pair] = total.get(pair, 0) + exponent
    return total


def exponents_moved(exponents, k):
    """The exponents with n + k in the place of n."""
    return {pair_plus(pair, -k): exponent for pair, exponent in exponents.items()}
