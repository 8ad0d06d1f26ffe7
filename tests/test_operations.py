"""Ideals made of ideals, by hand: [5]."""

import unittest

from jointneeds.operations import (
    colon_by, colon_of, meet_of, permuted, power_of, product_of, radical_of, saturated, sum_of,
)

from tests.boxes import is_plain, stair

A = (2, ((0, 3), (2, 1)))
B = (2, ((1, 2), (3, 0)))
ZERO = (2, ())
WHOLE = (2, ((0, 0),))


def variables(n):
    """The ideal of all n variables."""
    return (n, tuple((0,) * (n - 1 - k) + (1,) + (0,) * k for k in range(n)))


class SumTests(unittest.TestCase):

    def test_by_hand(self):
        self.assertEqual(sum_of(A, B), (2, ((0, 3), (1, 2), (2, 1), (3, 0))))
        self.assertEqual(sum_of(A, (2, ((0, 1),))), (2, ((0, 1),)))
        self.assertEqual(sum_of(A, A), A)

    def test_zero_ideal_and_whole_ring(self):
        self.assertEqual(sum_of(ZERO, ZERO), ZERO)
        self.assertEqual(sum_of(ZERO, A), A)
        self.assertEqual(sum_of(A, ZERO), A)
        self.assertEqual(sum_of(WHOLE, A), WHOLE)
        self.assertEqual(sum_of(ZERO, WHOLE), WHOLE)

    def test_one_and_twelve_variables(self):
        self.assertEqual(sum_of((1, ((5,),)), (1, ((3,),))), (1, ((3,),)))
        all_twelve = variables(12)
        first = (12, all_twelve[1][:5])
        last = (12, all_twelve[1][3:])
        self.assertEqual(sum_of(first, last), all_twelve)


class ProductTests(unittest.TestCase):

    def test_by_hand(self):
        self.assertEqual(product_of(A, B), (2, ((1, 5), (3, 3), (5, 1))))
        self.assertEqual(product_of(A, (2, ((0, 1),))), (2, ((0, 4), (2, 2))))

    def test_zero_ideal_and_whole_ring(self):
        self.assertEqual(product_of(ZERO, A), ZERO)
        self.assertEqual(product_of(WHOLE, ZERO), ZERO)
        self.assertEqual(product_of(WHOLE, A), A)
        self.assertEqual(product_of(A, WHOLE), A)

    def test_one_and_twelve_variables(self):
        self.assertEqual(product_of((1, ((5,),)), (1, ((3,),))), (1, ((8,),)))
        square = product_of((12, ((1,) * 12,)), (12, ((2,) * 12,)))
        self.assertEqual(square, (12, ((3,) * 12,)))


class MeetTests(unittest.TestCase):

    def test_by_hand(self):
        self.assertEqual(meet_of(A, B), (2, ((1, 3), (2, 2), (3, 1))))
        self.assertEqual(meet_of((2, ((0, 1),)), (2, ((1, 0),))), (2, ((1, 1),)))
        self.assertEqual(meet_of(A, A), A)

    def test_zero_ideal_and_whole_ring(self):
        self.assertEqual(meet_of(ZERO, A), ZERO)
        self.assertEqual(meet_of(A, ZERO), ZERO)
        self.assertEqual(meet_of(WHOLE, A), A)
        self.assertEqual(meet_of(WHOLE, WHOLE), WHOLE)

    def test_one_and_twelve_variables(self):
        self.assertEqual(meet_of((1, ((5,),)), (1, ((3,),))), (1, ((5,),)))
        ends = (12, ((0,) * 11 + (60,), (60,) + (0,) * 11))
        middle = (12, ((0,) * 5 + (1,) + (0,) * 6,))
        expected = ((0,) * 5 + (1,) + (0,) * 5 + (60,), (60,) + (0,) * 4 + (1,) + (0,) * 6)
        self.assertEqual(meet_of(ends, middle), (12, expected))


class PowerTests(unittest.TestCase):

    def test_by_hand(self):
        self.assertEqual(power_of(A, 2), (2, ((0, 6), (2, 4), (4, 2))))
        self.assertEqual(power_of(A, 3), (2, ((0, 9), (2, 7), (4, 5), (6, 3))))
        self.assertEqual(power_of((2, ((0, 1), (1, 0))), 6), (2, stair(6)))

    def test_none_and_one(self):
        self.assertEqual(power_of(A, 0), WHOLE)
        self.assertEqual(power_of(A, 1), A)

    def test_zero_ideal_and_whole_ring(self):
        self.assertEqual(power_of(ZERO, 0), WHOLE)
        for k in range(1, 7):
            self.assertEqual(power_of(ZERO, k), ZERO)
        for k in range(7):
            self.assertEqual(power_of(WHOLE, k), WHOLE)

    def test_one_and_twelve_variables(self):
        for k in range(7):
            self.assertEqual(power_of((1, ((10,),)), k), (1, ((10 * k,),)))
            self.assertEqual(power_of((12, ((1,) * 12,)), k), (12, ((k,) * 12,)))


class ColonTests(unittest.TestCase):

    def test_by_a_monomial(self):
        self.assertEqual(colon_by(A, (1, 1)), (2, ((0, 2), (1, 0))))
        self.assertEqual(colon_by(A, (0, 0)), A)
        self.assertEqual(colon_by(A, (2, 1)), WHOLE)
        self.assertEqual(colon_by(ZERO, (2, 1)), ZERO)
        self.assertEqual(colon_by(WHOLE, (2, 1)), WHOLE)

    def test_by_a_monomial_with_great_exponents(self):
        self.assertEqual(colon_by(A, (10 ** 20, 0)), (2, ((0, 1),)))
        self.assertEqual(colon_by(A, (0, 10 ** 20)), WHOLE)

    def test_by_a_monomial_in_one_and_twelve_variables(self):
        self.assertEqual(colon_by((1, ((60,),)), (7,)), (1, ((53,),)))
        self.assertEqual(colon_by((12, ((60,) * 12,)), (1,) * 12), (12, ((59,) * 12,)))

    def test_by_an_ideal(self):
        maximal = (2, ((0, 1), (1, 0)))
        self.assertEqual(colon_of((2, ((0, 3), (1, 1), (3, 0))), maximal), (2, ((0, 2), (1, 1), (2, 0))))
        self.assertEqual(colon_of(A, (2, ((1, 1),))), colon_by(A, (1, 1)))
        self.assertEqual(colon_of(A, B), (2, ((0, 1),)))
        self.assertEqual(colon_of(A, A), WHOLE)

    def test_by_an_ideal_zero_ideal_and_whole_ring(self):
        self.assertEqual(colon_of(A, ZERO), WHOLE)
        self.assertEqual(colon_of(ZERO, ZERO), WHOLE)
        self.assertEqual(colon_of(ZERO, A), ZERO)
        self.assertEqual(colon_of(A, WHOLE), A)
        self.assertEqual(colon_of(WHOLE, A), WHOLE)
        self.assertEqual(colon_of(WHOLE, ZERO), WHOLE)

    def test_by_an_ideal_in_one_and_twelve_variables(self):
        self.assertEqual(colon_of((1, ((60,),)), (1, ((7,),))), (1, ((53,),)))
        self.assertEqual(colon_of((1, ((7,),)), (1, ((60,),))), (1, ((0,),)))
        self.assertEqual(colon_of(variables(12), variables(12)), (12, ((0,) * 12,)))
        self.assertEqual(colon_of((12, ((1,) * 12,)), variables(12)), (12, ((1,) * 12,)))


class SaturatedTests(unittest.TestCase):

    def test_by_hand(self):
        self.assertEqual(saturated(A, 0), (2, ((0, 1),)))
        self.assertEqual(saturated(A, 1), WHOLE)
        self.assertEqual(saturated((3, ((0, 2, 1), (1, 0, 2))), 1), (3, ((0, 0, 1),)))
        self.assertEqual(saturated((3, ((0, 2, 1), (1, 0, 2))), 2), (3, ((0, 2, 0), (1, 0, 0))))

    def test_zero_ideal_and_whole_ring(self):
        for variable in (0, 1):
            self.assertEqual(saturated(ZERO, variable), ZERO)
            self.assertEqual(saturated(WHOLE, variable), WHOLE)

    def test_one_and_twelve_variables(self):
        self.assertEqual(saturated((1, ((60,),)), 0), (1, ((0,),)))
        for k in range(12):
            expected = (60,) * k + (0,) + (60,) * (11 - k)
            self.assertEqual(saturated((12, ((60,) * 12,)), k), (12, (expected,)))


class RadicalTests(unittest.TestCase):

    def test_by_hand(self):
        self.assertEqual(radical_of(A), (2, ((0, 1),)))
        self.assertEqual(radical_of(B), (2, ((1, 0),)))
        self.assertEqual(radical_of((3, ((0, 2, 3), (4, 0, 1)))), (3, ((0, 1, 1), (1, 0, 1))))

    def test_zero_ideal_and_whole_ring(self):
        self.assertEqual(radical_of(ZERO), ZERO)
        self.assertEqual(radical_of(WHOLE), WHOLE)

    def test_one_and_twelve_variables(self):
        self.assertEqual(radical_of((1, ((60,),))), (1, ((1,),)))
        self.assertEqual(radical_of((12, ((60,) * 12,))), (12, ((1,) * 12,)))


class PermutedTests(unittest.TestCase):

    def test_by_hand(self):
        ideal = (3, ((0, 1, 5), (2, 0, 3)))
        self.assertEqual(permuted(ideal, (0, 1, 2)), ideal)
        self.assertEqual(permuted(ideal, (1, 2, 0)), (3, ((0, 3, 2), (1, 5, 0))))
        self.assertEqual(permuted(ideal, (2, 0, 1)), (3, ((3, 2, 0), (5, 0, 1))))

    def test_zero_ideal_and_whole_ring(self):
        self.assertEqual(permuted(ZERO, (1, 0)), ZERO)
        self.assertEqual(permuted(WHOLE, (1, 0)), WHOLE)

    def test_one_and_twelve_variables(self):
        self.assertEqual(permuted((1, ((60,),)), (0,)), (1, ((60,),)))
        listing = (11, 0, 1, 2, 3, 4, 5, 6, 7, 8, 9, 10)
        expected = (11, 0, 1, 2, 3, 4, 5, 6, 7, 8, 9, 10)
        self.assertEqual(permuted((12, (tuple(range(12)),)), listing), (12, (expected,)))
        shifted = permuted((12, (tuple(range(20, 32)),)), listing)
        self.assertEqual(shifted, (12, ((31,) + tuple(range(20, 31)),)))


class ValueTests(unittest.TestCase):

    def test_values_are_plain_and_arguments_stay(self):
        values = (sum_of(A, B), product_of(A, B), meet_of(A, B), power_of(A, 2), colon_by(A, (1, 1)),
                  colon_of(A, B), saturated(A, 0), radical_of(A), permuted(A, (1, 0)))
        for value in values:
            self.assertTrue(is_plain(value))
        self.assertEqual(A, (2, ((0, 3), (2, 1))))
        self.assertEqual(B, (2, ((1, 2), (3, 0))))


if __name__ == "__main__":
    unittest.main()
