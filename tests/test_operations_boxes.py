"""Ideals made of all small ideals, compared monomial by monomial: [5]."""

import unittest
from itertools import permutations

from jointneeds.ideals import breach
from jointneeds.meets import meet_of_rows
from jointneeds.operations import (
    colon_by, colon_of, meet_of, permuted, power_of, product_of, radical_of, saturated, sum_of,
)

from tests.boxes import all_ideals, box, lies, lies_in_power, lies_in_product, plus

# The numbers of variables and the greatest exponents of the ideals to be tried.
SIZES = ((1, 3), (2, 2), (3, 1))
FAR = 20


class BoxTests(unittest.TestCase):

    def assert_is(self, made, n, side, belongs):
        """Check that an ideal has just the monomials of a box that belong."""
        self.assertIsNone(breach(made))
        self.assertEqual(made[0], n)
        for generator in made[1]:
            self.assertLessEqual(max(generator), side)
        for monomial in box(n, side):
            self.assertEqual(lies(made[1], monomial), belongs(monomial), (made, monomial))


class PairTests(BoxTests):

    def pairs(self):
        """All pairs of small ideals, and what is needed to speak of them."""
        for n, top in SIZES:
            ideals = all_ideals(n, top)
            for a in ideals:
                for b in ideals:
                    yield n, top, a, b

    def test_sum(self):
        for n, top, a, b in self.pairs():
            self.assert_is(sum_of(a, b), n, top, lambda m: lies(a[1], m) or lies(b[1], m))

    def test_meet(self):
        for n, top, a, b in self.pairs():
            self.assert_is(meet_of(a, b), n, top, lambda m: lies(a[1], m) and lies(b[1], m))

    def test_product(self):
        for n, top, a, b in self.pairs():
            self.assert_is(product_of(a, b), n, 2 * top, lambda m: lies_in_product(a[1], b[1], m))

    def test_colon(self):
        for n, top, a, b in self.pairs():
            self.assert_is(colon_of(a, b), n, top, lambda m: all(lies(a[1], plus(m, g)) for g in b[1]))


class SingleTests(BoxTests):

    def singles(self):
        """All small ideals, and what is needed to speak of them."""
        for n, top in SIZES:
            for ideal in all_ideals(n, top):
                yield n, top, ideal

    def test_power(self):
        for n, top, ideal in self.singles():
            for k in range(4):
                belongs = lambda m: lies_in_power(ideal[1], k, m)
                self.assert_is(power_of(ideal, k), n, max(k, 1) * top, belongs)

    def test_high_powers(self):
        for ideal in all_ideals(1, 2) + all_ideals(2, 1):
            for k in (4, 5, 6):
                n = ideal[0]
                self.assert_is(power_of(ideal, k), n, 12 // n, lambda m: lies_in_power(ideal[1], k, m))

    def test_colon_by(self):
        for n, top, ideal in self.singles():
            for monomial in box(n, top + 1):
                belongs = lambda m: lies(ideal[1], plus(m, monomial))
                self.assert_is(colon_by(ideal, monomial), n, top, belongs)

    def test_saturated(self):
        for n, top, ideal in self.singles():
            for variable in range(n):
                far = tuple(FAR if k == variable else 0 for k in range(n))
                self.assert_is(saturated(ideal, variable), n, top, lambda m: lies(ideal[1], plus(m, far)))

    def test_radical(self):
        for n, top, ideal in self.singles():
            belongs = lambda m: lies(ideal[1], tuple(FAR * exponent for exponent in m))
            self.assert_is(radical_of(ideal), n, top, belongs)

    def test_permuted(self):
        for n, top, ideal in self.singles():
            for listing in permutations(range(n)):
                # The exponent number k of the new one is number listing[k] of the old one.
                before = lambda m: tuple(m[listing.index(k)] for k in range(n))
                self.assert_is(permuted(ideal, listing), n, top, lambda m: lies(ideal[1], before(m)))


class TripleTests(BoxTests):

    def test_colon_by_three_monomials(self):
        """Ideals with an exponent at each of three variables, by three of a kind."""
        divisor = (3, ((0, 0, 2), (0, 1, 1), (1, 0, 1), (2, 1, 0)))
        for a in all_ideals(3, 2)[::7]:
            self.assert_is(colon_of(a, divisor), 3, 2, lambda m: all(lies(a[1], plus(m, g)) for g in divisor[1]))

    def test_meets_of_three(self):
        ideals = all_ideals(2, 2)
        for a in ideals:
            for b in ideals:
                for c in ideals[::3]:
                    rows = [a[1], b[1], c[1]]
                    self.assert_is(meet_of_rows(2, rows), 2, 2, lambda m: all(lies(row, m) for row in rows))


if __name__ == "__main__":
    unittest.main()
