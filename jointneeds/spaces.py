"""Vectors over the field that a prime tells: the integers modulo it, or fractions for 0.

A vector is a dict of its coefficients other than 0, by integers as keys. For
the prime 0 all coefficients are integers, and a vector stands for all its
multiples, so that no fractions are needed.
"""

from math import gcd


def residue(number, prime):
    """A number as a coefficient over the field."""
    if prime == 0:
        return number
    return number % prime


def inverse(number, prime):
    """The coefficient whose product with a number is 1 modulo a prime above 0."""
    return [other for other in range(1, prime) if number * other % prime == 1][0]


def subtract(left, many, vector, prime):
    """Take a vector many times from another one, which is changed."""
    for key, coefficient in vector.items():
        value = residue(left.get(key, 0) - many * coefficient, prime)
        if value != 0:
            left[key] = value
        else:
            left.pop(key, None)


def scaled(vector, prime):
    """The multiple of a vector by which its line is told.

    Its coefficient at the greatest key is 1 modulo a prime above 0; for the
    prime 0 it is above 0, and all have no common divisor.
    """
    lead = vector[max(vector)]
    if prime > 0:
        factor = inverse(lead, prime)
        return {key: vector[key] * factor % prime for key in vector}
    divisor = 0
    for key in vector:
        divisor = gcd(divisor, vector[key])
    if lead < 0:
        divisor = -divisor
    return {key: vector[key] // divisor for key in vector}


class Span:
    """A space of vectors, by basis vectors whose greatest keys all differ."""

    def __init__(self, prime):
        self.prime = prime
        # Each basis vector, scaled, by its greatest key.
        self.basis = {}

    def take_in(self, vector):
        """Add a vector to those that span the space."""
        rest = self.rest_of(vector)
        if rest:
            self.basis[max(rest)] = scaled(rest, self.prime)

    def rest_of(self, vector):
        """A vector less one of the space, so that no basis vector has its greatest key.

        For the prime 0 it is a multiple of such a vector.
        """
        left = dict(vector)
        while left:
            lead = max(left)
            if lead not in self.basis:
                break
            row = self.basis[lead]
            factor = row[lead] // gcd(row[lead], left[lead])
            if factor > 1:
                left = {key: factor * left[key] for key in left}
            subtract(left, left[lead] // row[lead], row, self.prime)
        return left

    def dimension(self):
        """The dimension of the space."""
        return len(self.basis)


def rank_of(columns, prime):
    """The dimension of the space that vectors span."""
    span = Span(prime)
    for column in columns:
        span.take_in(column)
    return span.dimension()


def solution(columns, target, prime):
    """Coefficients with which the columns sum up to a target, by the columns' numbers.

    None if there are none. The prime is above 0, and all keys are at least 0.
    """
    span = Span(prime)
    for number, column in enumerate(columns):
        # A key of its own, less than all others, keeps count of each column.
        span.take_in({**column, -1 - number: 1})
    rest = span.rest_of(target)
    if max(rest, default=-1) >= 0:
        return None
    return {-1 - key: residue(-rest[key], prime) for key in rest}
