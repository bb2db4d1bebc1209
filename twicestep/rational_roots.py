"""The fractions at which polynomials with integers are zero.

The integers have far too many digits to be factored. So the roots are found modulo a small prime, and from
there modulo its powers (K. Hensel's way), until the power is greater than anything that a root could be.
"""

from math import gcd, isqrt, lcm

from twicestep.integer_polynomials import (common_divisor, exact_quotient, primitive, slope, value_modulo,
                                           without_root)

PRIMES_TRIED = 10


def integer_form(polynomial):
    """The primitive list of integers of a plain polynomial other than 0, up to a factor the same."""
    bottom = 1
    for number in polynomial:
        bottom = lcm(bottom, number[2])
    return primitive([number[0] * (bottom // number[2]) for number in polynomial])


def scaled_roots(coefficients):
    """The ascending list, with repeats, of the last integer times each root of a primitive list."""
    if most_roots(coefficients) == 0:
        return []
    last = coefficients[-1]
    simple = exact_quotient(coefficients, common_divisor(coefficients, slope(coefficients)))
    found = []
    for scaled in sorted(scaled_candidates(simple, last)):
        divisor = gcd(scaled, last)
        rest = without_root(coefficients, scaled // divisor, last // divisor)
        while rest is not None:
            found.append(scaled)
            rest = without_root(rest, scaled // divisor, last // divisor)
    return found


def scaled_candidates(simple, last):
    """The list of integers that holds last times each root; simple has no root twice, and last is a
    multiple of its last integer."""
    prime, residues = simple_residues(simple)
    # No root is greater than 1 + the greatest of the integers but the last over the last one.
    bound = last * (1 + max([abs(number) for number in simple]))
    candidates = []
    for residue in residues:
        modulus, at = lifted(simple, residue, prime, 2 * bound)
        scaled = last * at % modulus
        candidates.append(scaled - modulus if 2 * scaled > modulus else scaled)
    return candidates


def simple_residues(coefficients):
    """A prime that does not divide the last integer, and all zeros modulo it, none of which is double."""
    steep = slope(coefficients)
    prime = 2
    while True:
        if coefficients[-1] % prime != 0:
            residues = zeros_modulo(coefficients, prime)
            if all(value_modulo(steep, at, prime) != 0 for at in residues):
                return prime, residues
        prime = next_prime(prime)


def zeros_modulo(coefficients, prime):
    """The list of the integers from 0 to below a prime at which the value is a multiple of it."""
    small = [number % prime for number in coefficients]
    return [at for at in range(prime) if value_modulo(small, at, prime) == 0]


def next_prime(prime):
    """The least prime above a prime."""
    number = prime + 1
    while any(number % k == 0 for k in range(2, isqrt(number) + 1)):
        number += 1
    return number


def lifted(coefficients, residue, prime, least):
    """A power of the prime above least, and the zero modulo it that is the residue modulo the prime."""
    steep = slope(coefficients)
    modulus, at = prime, residue
    inverse = inverse_modulo(value_modulo(steep, at, prime), prime)
    while modulus <= least:
        modulus = modulus * modulus
        at = (at - value_modulo(coefficients, at, modulus) * inverse) % modulus
        inverse = inverse * (2 - value_modulo(steep, at, modulus) * inverse) % modulus
    return modulus, at


def inverse_modulo(number, prime):
    """The integer that times a number is 1 modulo a small prime that does not divide it."""
    inverse = 1
    while number * inverse % prime != 1:
        inverse += 1
    return inverse


def most_roots(coefficients):
    """At least the number of roots with repeats: the least number of zeros modulo each of a few primes.

    Each root is also one modulo a prime that does not divide the last integer. For most polynomials without
    roots this tells so at once, while looking for the roots themselves takes long at high degrees.
    """
    most = len(coefficients) - 1
    prime, tried = 2, 0
    while tried < PRIMES_TRIED and most > 0:
        if coefficients[-1] % prime != 0:
            most = min(most, count_modulo(coefficients, prime))
            tried += 1
        prime = next_prime(prime)
    return most


def count_modulo(coefficients, prime):
    """The number of zeros with repeats modulo a prime that does not divide the last integer."""
    rest = [number % prime for number in coefficients]
    for at in range(prime):
        quotient, left = divided_modulo(rest, at, prime)
        while left == 0 and len(rest) > 1:
            rest = quotient
            quotient, left = divided_modulo(rest, at, prime)
    return len(coefficients) - len(rest)


def divided_modulo(coefficients, at, prime):
    """The quotient by n - at and the remainder, modulo a prime."""
    quotient = []
    value = 0
    for number in reversed(coefficients):
        value = (value * at + number) % prime
        quotient.append(value)
    left = quotient.pop()
    quotient.reverse()
    return quotient, left
