"""Counting what ideals leave over: numerators, numbers by degrees, and their polynomials."""

from math import comb, factorial, gcd

from jointneeds.errors import TooMany
from jointneeds.ideals import contains, want_small
from jointneeds.monomials import all_of_degree, degree_of, divides, lcm_of, one_of, times
from jointneeds.needs import common_multiples, is_ring
from jointneeds.operations import colon_by

MOST_OF_DEGREE = 5000


def numerator(ideal):
    """The sum of the signs of all sets of generators, at their least common multiples."""
    want_small(ideal)
    n, generators = ideal
    sums = {one_of(n): 1}
    for generator in generators:
        # The sets so far, and each of them with this generator and the other sign.
        for m, coefficient in list(sums.items()):
            put_to(sums, lcm_of(m, generator), -coefficient)
    return told_sums(sums)


def put_to(sums, m, coefficient):
    """Add a coefficient to the sum at a monomial."""
    sums[m] = sums.get(m, 0) + coefficient


def told_sums(sums):
    """The pairs of a monomial and its sum, other than 0, ascending."""
    return tuple([(m, sums[m]) for m in sorted(sums) if sums[m] != 0])


def numerator_by_splitting(ideal):
    """The numerator, found by taking the last generator off."""
    want_small(ideal)
    return told_sums(split_sums(ideal))


def split_sums(ideal):
    """The numerator of an ideal as a dict, by those of ideals with fewer generators."""
    n, generators = ideal
    if not generators:
        return {one_of(n): 1}
    last = generators[-1]
    less = (n, generators[:-1])
    sums = split_sums(less)
    taken = split_sums(colon_by(less, last))
    for m in taken:
        put_to(sums, times(m, last), -taken[m])
    return sums


def signs(ideal):
    """The pairs of a common multiple and its number, by the multiples that divide it."""
    multiples = common_multiples(ideal)
    if is_ring(ideal):
        return ()
    found = [(multiples[0], 1)]
    for m in multiples[1:]:
        # What divides m and is not m is a lesser tuple, so it is found already.
        below = [number for other, number in found if divides(other, m)]
        found.append((m, -sum(below)))
    return tuple(found)


def left_over(ideal, degree):
    """The monomials of a degree that do not lie in an ideal, ascending."""
    n, _ = ideal
    want_few_of_degree(n, degree)
    return tuple([m for m in all_of_degree(n, degree) if not contains(ideal, m)])


def want_few_of_degree(n, degree):
    """Raise TooMany if there are too many monomials of a degree in n variables."""
    if many_of_degree(n, degree) > MOST_OF_DEGREE:
        raise TooMany(MOST_OF_DEGREE)


def many_of_degree(n, degree):
    """The number of monomials of a degree in n variables."""
    return comb(degree + n - 1, n - 1)


def count_left(ideal, degree):
    """The number of monomials of a degree that do not lie in an ideal."""
    n, _ = ideal
    return count_by_row(n, graded_numerator(ideal), degree)


def count_by_row(n, row, degree):
    """The number of monomials of a degree that are left over, by the graded numerator."""
    return sum([entry * many_of_degree(n, degree - k) for k, entry in enumerate(row[:degree + 1]) if entry != 0])


def graded_numerator(ideal):
    """For each degree the sum of the numerator's coefficients, without zeros at the end."""
    entries = {}
    for m, coefficient in numerator(ideal):
        put_to(entries, degree_of(m), coefficient)
    most = max(list(entries), default=-1)
    return tuple(without_zeros([entries.get(k, 0) for k in range(most + 1)]))


def without_zeros(row):
    """A row of integers without the zeros at its end."""
    last = max([k for k, entry in enumerate(row) if entry != 0], default=-1)
    return row[:last + 1]


def left_polynomial(ideal):
    """The coefficients, as ratios, of the polynomial that counts what is left over."""
    n, _ = ideal
    sums = [0] * n
    for k, entry in enumerate(graded_numerator(ideal)):
        for power, coefficient in enumerate(shifted_product(n, k)):
            sums[power] += entry * coefficient
    return tuple([ratio(number, factorial(n - 1)) for number in without_zeros(sums)])


def shifted_product(n, k):
    """The coefficients, the constant one first, of (d - k + 1) (d - k + 2) .. (d - k + n - 1).

    Divided by (n - 1)! it is the number of monomials of degree d - k.
    """
    row = [1]
    for j in range(1, n):
        row = [(j - k) * low + high for low, high in zip(row + [0], [0] + row)]
    return row


def ratio(number, divisor):
    """The ratio of two integers, the second one above 0."""
    common = gcd(number, divisor)
    return (number // common, divisor // common)


def settled_from(ideal):
    """The least degree from which on the polynomial is right."""
    n, _ = ideal
    # With the last entry of the row at k, each binomial, taken as a polynomial,
    # is right from the degree k - n + 1 on, and one degree below just the one of
    # the last entry is not.
    return max(0, len(graded_numerator(ideal)) - n)


def multiplicity(ideal):
    """The polynomial's last coefficient times a factorial, or the number of all that is left over."""
    n, _ = ideal
    polynomial = left_polynomial(ideal)
    if not polynomial:
        row = graded_numerator(ideal)
        return sum([count_by_row(n, row, degree) for degree in range(settled_from(ideal))])
    above, below = polynomial[-1]
    return above * factorial(len(polynomial) - 1) // below
