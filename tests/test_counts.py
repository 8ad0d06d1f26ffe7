"""Numerators, and what ideals leave over: [21] to [23]."""

import unittest
from fractions import Fraction
from itertools import combinations, product
from math import comb, factorial, gcd
from random import Random

from jointneeds.complexes import ideal_of_complex
from jointneeds.counts import (
    count_left, graded_numerator, left_over, left_polynomial, multiplicity, numerator, numerator_by_splitting,
    settled_from, signs,
)
from jointneeds.errors import TooMany
from jointneeds.ideals import check_ideal, ideal_of
from jointneeds.needs import common_multiples, needs_by_cuts

from tests.boxes import (
    CORNER, PLANE, all_ideals, error_raised, ideal, lies, of_degree, placed, signs_of_lots, six_at_most, small_wanted,
    squarefree, stair, twice, variable,
)

# Ideals, their numerators, and what stands in the numerators at each degree.
NUMERATORS = [
    ((1, ()), [((0,), 1)], (1,)),
    ((8, ()), [((0,) * 8, 1)], (1,)),
    ((1, ((0,),)), [], ()),
    ((8, ((0,) * 8,)), [], ()),
    ((1, ((3,),)), [((0,), 1), ((3,), -1)], (1, 0, 0, -1)),
    ((3, ((1, 0, 2),)), [((0, 0, 0), 1), ((1, 0, 2), -1)], (1, 0, 0, -1)),
    ((2, ((0, 1), (1, 0))), [((0, 0), 1), ((0, 1), -1), ((1, 0), -1), ((1, 1), 1)], (1, -2, 1)),
    (CORNER, [((0, 0), 1), ((0, 3), -1), ((1, 1), -1), ((1, 3), 1), ((2, 0), -1), ((2, 1), 1)], (1, 0, -2, 0, 1)),
    ((3, ((0, 1, 1), (1, 0, 1), (1, 1, 0))),
     [((0, 0, 0), 1), ((0, 1, 1), -1), ((1, 0, 1), -1), ((1, 1, 0), -1), ((1, 1, 1), 2)], (1, 0, -3, 2)),
    # At degree 4 the coefficients cancel one another, and at (2, 1, 2) of degree 5, too.
    ((3, ((0, 1, 1), (0, 2, 0), (2, 0, 2), (2, 1, 0))),
     [((0, 0, 0), 1), ((0, 1, 1), -1), ((0, 2, 0), -1), ((0, 2, 1), 1), ((2, 0, 2), -1), ((2, 1, 0), -1),
      ((2, 1, 1), 1), ((2, 1, 2), 1), ((2, 2, 0), 1), ((2, 2, 1), -1)], (1, 0, -2, 0, 1)),
]

# Ideals, the polynomials that count what is left over, from where on, and the multiplicities.
POLYNOMIALS = [
    ((1, ()), ((1, 1),), 0, 1),
    ((2, ()), ((1, 1), (1, 1)), 0, 1),
    ((3, ()), ((1, 1), (3, 2), (1, 2)), 0, 1),
    ((1, ((0,),)), (), 0, 0),
    ((4, ((0,) * 4,)), (), 0, 0),
    ((1, ((1,),)), (), 1, 1),
    ((1, ((60,),)), (), 60, 60),
    (CORNER, (), 3, 4),
    ((2, ((1, 1),)), ((2, 1),), 1, 2),
    ((2, ((0, 7),)), ((7, 1),), 6, 7),
    ((2, ((1, 2), (2, 1))), ((2, 1),), 3, 2),
    ((2, ((0, 1),)), ((1, 1),), 0, 1),
    ((3, ((0, 0, 1),)), ((1, 1), (1, 1)), 0, 1),
    ((3, ((0, 0, 2),)), ((1, 1), (2, 1)), 0, 2),
    ((3, ((1, 1, 1),)), ((0, 1), (3, 1)), 1, 3),
    ((3, ((0, 0, 5),)), ((-5, 1), (5, 1)), 3, 5),
    ((3, ((0, 1, 1), (1, 0, 1), (1, 1, 0))), ((3, 1),), 1, 3),
    # A line and a plane that meet in a point.
    ((3, ((0, 1, 1), (1, 0, 1))), ((2, 1), (1, 1)), 1, 1),
    ((4, ((0, 0, 1, 1), (0, 1, 0, 1), (1, 0, 0, 1))), ((2, 1), (3, 2), (1, 2)), 1, 1),
    ((4, ((0, 0, 0, 1), (0, 0, 1, 0), (0, 1, 0, 0), (1, 0, 0, 0))), (), 1, 1),
    ((4, ((0, 0, 0, 2), (0, 0, 2, 0), (0, 2, 0, 0), (2, 0, 0, 0))), (), 5, 16),
]


def some_ideals():
    """Proper ideals of many kinds, whose exponents are at most 3."""
    random = Random(33)
    found = six_at_most() + [value for value in all_ideals(3, 2)[::90] if value[1] != ((0, 0, 0),)]
    for _ in range(25):
        n = random.randint(3, 5)
        monomials = [tuple(random.choice((0, random.randint(0, 3))) for _ in range(n)) for _ in range(7)]
        found.append(ideal_of(n, [m for m in monomials if any(m)]))
    return found


def many_generators():
    """Ideals with eight variables, with ten generators, and with both."""
    eight = (8, tuple(variable(8, k) for k in range(7, -1, -1)))
    ten = (2, stair(9))
    pairs = squarefree(8, *[(j, k, 7) for j in (0, 1) for k in range(2, 7)])
    return [eight, ten, pairs, ideal_of_complex(6, PLANE)]


def left_in(value, degree):
    """The monomials of a degree that lie in no multiple of a generator."""
    n, generators = value
    return tuple(m for m in of_degree(n, degree) if not lies(generators, m))


def value_at(polynomial, d):
    """The value of a polynomial that is told by its ratios."""
    return sum(Fraction(a, b) * Fraction(d) ** k for k, (a, b) in enumerate(polynomial))


def least_covers(value):
    """The least primes in number that contain a proper ideal; and that number."""
    n, generators = value
    for size in range(n + 1):
        found = [p for p in combinations(range(n), size) if all(any(g[k] for k in p) for g in generators)]
        if found:
            return found, size
    return [], n + 1


def left_within(value, prime):
    """How many monomials in the variables of a prime are left over, if all other variables are 1."""
    _, generators = value
    seen = [tuple(g[k] for k in prime) for g in generators]
    tops = [max([g[k] for g in seen] + [0]) for k in range(len(prime))]
    return sum(not lies(seen, m) for m in product(*[range(top) for top in tops]))


class NumeratorTests(unittest.TestCase):

    def test_by_hand(self):
        for value, pairs, row in NUMERATORS:
            with self.subTest(value):
                self.assertEqual(twice(self, numerator, check_ideal(value)), tuple(pairs))
                self.assertEqual(twice(self, numerator_by_splitting, value), tuple(pairs))
                self.assertEqual(twice(self, graded_numerator, value), row)

    def test_all_sets_of_generators(self):
        for value in some_ideals() + many_generators():
            expected = tuple(sorted(signs_of_lots(value).items()))
            with self.subTest(value):
                self.assertEqual(numerator(value), expected)
                self.assertEqual(numerator_by_splitting(value), expected)

    def test_needs_with_turning_signs(self):
        for value in some_ideals()[::2] + [ideal_of_complex(6, PLANE)]:
            for prime in (0, 2, 3):
                sums = {}
                for i, m, number in needs_by_cuts(value, prime):
                    sums[m] = sums.get(m, 0) + (-1) ** i * number
                expected = tuple(sorted((m, number) for m, number in sums.items() if number))
                self.assertEqual(numerator(value), expected)

    def test_great_exponents(self):
        value = (3, ((0, 30, 60), (1, 60, 0), (60, 0, 0)))
        expected = tuple(sorted(signs_of_lots(value).items()))
        self.assertEqual(numerator(value), expected)
        self.assertEqual(numerator_by_splitting(value), expected)
        self.assertEqual(len(graded_numerator((8, ((60,) * 8,)))), 481)

    def test_graded(self):
        for value in some_ideals() + many_generators():
            row = graded_numerator(value)
            sums = {}
            for m, number in numerator(value):
                sums[sum(m)] = sums.get(sum(m), 0) + number
            self.assertEqual({d: entry for d, entry in enumerate(row) if entry},
                             {d: number for d, number in sums.items() if number})
            self.assertNotEqual(row[-1], 0)

    def test_graded_where_the_greatest_degree_cancels(self):
        value = (3, ((0, 0, 2), (0, 2, 1), (1, 1, 1), (2, 2, 0)))
        self.assertEqual(max(sum(m) for m, _ in numerator(value)), 5)
        self.assertEqual(graded_numerator(value), (1, 0, -1, -2, 2))


class SignTests(unittest.TestCase):

    def test_by_hand(self):
        self.assertEqual(twice(self, signs, (1, ())), (((0,), 1),))
        self.assertEqual(twice(self, signs, (8, ())), (((0,) * 8, 1),))
        self.assertEqual(signs((1, ((60,),))), (((0,), 1), ((60,), -1)))
        # All common multiples are told, those with the number 0 as well.
        expected = (((0, 0), 1), ((0, 3), -1), ((1, 1), -1), ((1, 3), 1), ((2, 0), -1), ((2, 1), 1), ((2, 3), 0))
        self.assertEqual(twice(self, signs, CORNER), expected)
        triangle = (3, ((0, 1, 1), (1, 0, 1), (1, 1, 0)))
        self.assertEqual(signs(triangle)[-1], ((1, 1, 1), 2))

    def test_whole_ring(self):
        for n in (1, 2, 8):
            self.assertEqual(signs((n, ((0,) * n,))), ())

    def test_they_are_the_coefficients(self):
        for value in some_ideals() + many_generators():
            found = signs(value)
            self.assertEqual(tuple(m for m, _ in found), common_multiples(value))
            self.assertEqual(tuple(pair for pair in found if pair[1]), numerator(value))


class LeftOverTests(unittest.TestCase):

    def test_by_hand(self):
        self.assertEqual(twice(self, left_over, CORNER, 0), ((0, 0),))
        self.assertEqual(twice(self, left_over, CORNER, 1), ((0, 1), (1, 0)))
        self.assertEqual(twice(self, left_over, CORNER, 2), ((0, 2),))
        self.assertEqual(twice(self, left_over, CORNER, 3), ())
        self.assertEqual(left_over((2, ()), 2), ((0, 2), (1, 1), (2, 0)))
        self.assertEqual(left_over((3, ((0, 1, 0),)), 2), ((0, 0, 2), (1, 0, 1), (2, 0, 0)))
        self.assertEqual(left_over((3, ((0, 0, 0),)), 0), ())
        self.assertEqual(left_over((3, ((0, 0, 0),)), 4), ())
        self.assertEqual(left_over((12, ()), 0), ((0,) * 12,))
        self.assertEqual(left_over((12, ()), 1), tuple(variable(12, k) for k in range(11, -1, -1)))

    def test_all_monomials_of_a_degree(self):
        for value in some_ideals() + [(3, ((0, 0, 0),)), (4, ())]:
            for degree in range(6):
                self.assertEqual(left_over(value, degree), left_in(value, degree))

    def test_exponents_are_not_bounded(self):
        self.assertEqual(left_over((1, ()), 61), ((61,),))
        self.assertEqual(left_over((1, ()), 10**6), ((10**6,),))
        self.assertEqual(left_over((1, ((60,),)), 59), ((59,),))
        self.assertEqual(left_over((1, ((60,),)), 10**6), ())
        self.assertEqual(left_over((2, ((1, 60),)), 100), tuple((k, 100 - k) for k in range(101) if k < 1 or k > 40))

    def test_any_number_of_variables_and_generators(self):
        value = ideal(9, placed(9, (0, 8), stair(59)))
        self.assertEqual(left_over(value, 2), left_over((9, ()), 2))
        self.assertEqual(len(left_over((2, stair(59)), 59)), 0)
        self.assertEqual(len(left_over((2, stair(59)), 58)), 59)
        self.assertEqual(len(left_over((12, tuple(variable(12, k) for k in range(11, -1, -1))), 3)), 0)

    def test_limit(self):
        five = {"limit": 5000}
        self.assertEqual(left_over((2, ()), 4999), tuple((k, 4999 - k) for k in range(5000)))
        for value in ((2, ()), (2, ((0, 0),)), (2, stair(59))):
            error_raised(self, TooMany, five, left_over, value, 5000)
        error_raised(self, TooMany, five, left_over, (2, ()), 10**6)
        # In so many variables, the greatest degree that is let.
        for n, degree in ((3, 98), (4, 29), (5, 16), (6, 11), (7, 8), (8, 7), (9, 6), (10, 5), (11, 5), (12, 5)):
            self.assertLessEqual(comb(degree + n - 1, n - 1), 5000)
            self.assertEqual(len(left_over((n, ()), degree)), comb(degree + n - 1, n - 1))
            error_raised(self, TooMany, five, left_over, (n, ()), degree + 1)


class CountTests(unittest.TestCase):

    def test_by_going_through_all(self):
        for value in some_ideals() + [(2, ()), (3, ((0, 0, 0),)), (1, ((0,),))]:
            for degree in range(8 if value[0] < 5 else 6):
                self.assertEqual(count_left(value, degree), len(left_in(value, degree)), (value, degree))

    def test_beyond_the_limit_of_left_over(self):
        self.assertEqual(twice(self, count_left, (2, ()), 5000), 5001)
        self.assertEqual(count_left((8, ()), 8), comb(15, 7))
        self.assertEqual(count_left((8, ()), 10**6), comb(10**6 + 7, 7))
        self.assertEqual(count_left((1, ()), 10**6), 1)
        self.assertEqual(count_left((1, ((60,),)), 10**6), 0)
        self.assertEqual(count_left((2, ((1, 1),)), 10**6), 2)
        self.assertEqual(count_left((3, ((0, 0, 5),)), 10**6), 5 * 10**6 - 5)
        self.assertEqual(count_left((8, ((60,) * 8,)), 10**6), comb(10**6 + 7, 7) - comb(10**6 - 473, 7))
        self.assertEqual(count_left((8, ((0,) * 8,)), 10**6), 0)

    def test_degree_0(self):
        for n in (1, 8):
            self.assertEqual(count_left((n, ()), 0), 1)
            self.assertEqual(count_left((n, ((0,) * n,)), 0), 0)
            self.assertEqual(count_left((n, ((1,) * n,)), 0), 1)

    def test_at_the_degrees_of_the_numerator(self):
        value = (2, ((0, 30), (30, 0)))
        expected = [min(d + 1, 30, max(0, 59 - d)) for d in range(70)]
        self.assertEqual([count_left(value, d) for d in range(70)], expected)


class PolynomialTests(unittest.TestCase):

    def test_by_hand(self):
        for value, polynomial, settled, number in POLYNOMIALS:
            with self.subTest(value):
                self.assertEqual(twice(self, left_polynomial, check_ideal(value)), polynomial)
                self.assertEqual(twice(self, settled_from, value), settled)
                self.assertEqual(twice(self, multiplicity, value), number)

    def test_ratios(self):
        for value in some_ideals() + many_generators() + [(8, ())]:
            polynomial = left_polynomial(value)
            for a, b in polynomial:
                self.assertGreaterEqual(b, 1)
                self.assertEqual(gcd(a, b), 1)
                if a == 0:
                    self.assertEqual(b, 1)
            if polynomial:
                self.assertNotEqual(polynomial[-1][0], 0)

    def test_values_from_where_it_is_settled(self):
        for value in some_ideals() + many_generators() + [(n, ()) for n in range(1, 9)]:
            polynomial = left_polynomial(value)
            settled = settled_from(value)
            self.assertGreaterEqual(settled, 0)
            for degree in list(range(settled, settled + 12)) + [1000]:
                self.assertEqual(value_at(polynomial, degree), count_left(value, degree))
            if settled > 0:
                self.assertNotEqual(value_at(polynomial, settled - 1), count_left(value, settled - 1))

    def test_values_against_all_monomials(self):
        for value in some_ideals()[::4]:
            settled = settled_from(value)
            polynomial = left_polynomial(value)
            for degree in range(settled, min(settled + 3, 9)):
                self.assertEqual(value_at(polynomial, degree), len(left_in(value, degree)))

    def test_great_exponents(self):
        powers = tuple(tuple(60 * exponent for exponent in variable(8, k)) for k in range(7, -1, -1))
        self.assertEqual(left_polynomial((8, powers)), ())
        self.assertEqual(settled_from((8, powers)), 8 * 59 + 1)
        self.assertEqual(multiplicity((8, powers)), 60**8)
        self.assertEqual(multiplicity((8, ((60,) * 8,))), 480)
        self.assertEqual(settled_from((8, ((60,) * 8,))), 473)
        self.assertEqual(len(left_polynomial((8, ((60,) * 8,)))), 7)

    def test_zero_ideal_of_eight_variables(self):
        polynomial = left_polynomial((8, ()))
        self.assertEqual(polynomial[0], (1, 1))
        self.assertEqual(polynomial[-1], (1, factorial(7)))
        self.assertEqual(settled_from((8, ())), 0)


class MultiplicityTests(unittest.TestCase):

    def test_the_least_primes(self):
        for value in some_ideals() + many_generators() + [(n, ()) for n in (1, 4, 8)]:
            covers, size = least_covers(value)
            with self.subTest(value):
                self.assertEqual(len(left_polynomial(value)), value[0] - size)
                expected = sum(left_within(value, prime) for prime in covers)
                self.assertEqual(multiplicity(value), expected)

    def test_dimension_0(self):
        random = Random(5)
        for _ in range(20):
            n = random.randint(1, 3)
            monomials = [tuple(random.randint(0, 3) for _ in range(n)) for _ in range(4)]
            powers = [tuple(random.randint(1, 4) * x for x in variable(n, k)) for k in range(n)]
            value = ideal_of(n, [m for m in monomials if any(m)] + powers)
            everything = sum(not lies(value[1], m) for m in product(range(5), repeat=n))
            self.assertEqual(left_polynomial(value), ())
            self.assertEqual(multiplicity(value), everything)
            self.assertEqual(sum(count_left(value, d) for d in range(settled_from(value))), everything)
            self.assertEqual(count_left(value, settled_from(value)), 0)


class LimitTests(unittest.TestCase):

    def test_small_ideals(self):
        for call in (numerator, numerator_by_splitting, signs, graded_numerator, left_polynomial, settled_from,
                     multiplicity):
            with self.subTest(call.__name__):
                small_wanted(self, call)
        small_wanted(self, count_left, 0)
        small_wanted(self, count_left, 10**6)

    def test_no_limit_on_common_multiples(self):
        value = (8, tuple(variable(8, k) for k in range(7, -1, -1)))
        self.assertEqual(len(numerator(value)), 256)
        self.assertEqual(numerator_by_splitting(value), numerator(value))
        self.assertEqual(len(signs(value)), 256)
        self.assertEqual(multiplicity(value), 1)


if __name__ == "__main__":
    unittest.main()
