"""Monomials: [1] and [4]."""

import unittest

from jointneeds.monomials import cut, degree_of, divides, gcd_of, lcm_of, support_of, times

from tests.boxes import box, is_plain

HUGE = 10 ** 40


class OneMonomialTests(unittest.TestCase):

    def test_degree(self):
        self.assertEqual(degree_of((2, 0, 1)), 3)
        self.assertEqual(degree_of((0,)), 0)
        self.assertEqual(degree_of((60,)), 60)
        self.assertEqual(degree_of((60,) * 12), 720)
        self.assertEqual(degree_of((HUGE, 1, HUGE)), 2 * HUGE + 1)

    def test_support(self):
        self.assertEqual(support_of((2, 0, 1)), (0, 2))
        self.assertEqual(support_of((0,)), ())
        self.assertEqual(support_of((60,)), (0,))
        self.assertEqual(support_of((0,) * 12), ())
        self.assertEqual(support_of((1,) * 12), tuple(range(12)))
        self.assertEqual(support_of((0,) * 11 + (1,)), (11,))
        self.assertEqual(support_of((0, HUGE, 0)), (1,))


class TwoMonomialsTests(unittest.TestCase):

    def test_divides_by_hand(self):
        self.assertIs(divides((1, 0), (1, 2)), True)
        self.assertIs(divides((1, 2), (1, 0)), False)
        self.assertIs(divides((1, 0), (0, 1)), False)
        self.assertIs(divides((0, 0), (0, 0)), True)
        self.assertIs(divides((60,), (60,)), True)
        self.assertIs(divides((61,), (60,)), False)
        self.assertIs(divides((0,) * 12, (60,) * 12), True)
        self.assertIs(divides((0,) * 11 + (1,), (60,) * 11 + (0,)), False)
        self.assertIs(divides((HUGE, 0), (HUGE, 5)), True)
        self.assertIs(divides((HUGE + 1, 0), (HUGE, 5)), False)

    def test_by_hand(self):
        a, b = (3, 0, 2, 60), (1, 4, 2, 0)
        self.assertEqual(lcm_of(a, b), (3, 4, 2, 60))
        self.assertEqual(gcd_of(a, b), (1, 0, 2, 0))
        self.assertEqual(times(a, b), (4, 4, 4, 60))
        self.assertEqual(cut(a, b), (2, 0, 0, 60))
        self.assertEqual(cut(b, a), (0, 4, 0, 0))

    def test_exponents_of_any_size(self):
        a, b = (HUGE, 1, 61), (3, HUGE + 2, 100)
        self.assertEqual(lcm_of(a, b), (HUGE, HUGE + 2, 100))
        self.assertEqual(gcd_of(a, b), (3, 1, 61))
        self.assertEqual(times(a, b), (HUGE + 3, HUGE + 3, 161))
        self.assertEqual(cut(a, b), (HUGE - 3, 0, 0))
        self.assertEqual(cut(b, a), (0, HUGE + 1, 39))
        self.assertEqual(times((60,) * 12, (60,) * 12), (120,) * 12)

    def test_one_and_twelve_variables(self):
        self.assertEqual(lcm_of((2,), (5,)), (5,))
        self.assertEqual(gcd_of((2,), (5,)), (2,))
        self.assertEqual(times((2,), (5,)), (7,))
        self.assertEqual(cut((2,), (5,)), (0,))
        self.assertEqual(cut((5,), (2,)), (3,))
        up, down = tuple(range(12)), tuple(range(11, -1, -1))
        self.assertEqual(lcm_of(up, down), (11, 10, 9, 8, 7, 6, 6, 7, 8, 9, 10, 11))
        self.assertEqual(gcd_of(up, down), (0, 1, 2, 3, 4, 5, 5, 4, 3, 2, 1, 0))
        self.assertEqual(times(up, down), (11,) * 12)
        self.assertEqual(cut(up, down), (0, 0, 0, 0, 0, 0, 1, 3, 5, 7, 9, 11))

    def test_all_of_a_box_by_their_meaning(self):
        monomials = box(2, 3)
        for a in monomials:
            for b in monomials:
                both = [m for m in monomials if divides(a, m) and divides(b, m)]
                self.assertIn(lcm_of(a, b), both)
                self.assertTrue(all(divides(lcm_of(a, b), m) for m in both))
                common = [m for m in monomials if divides(m, a) and divides(m, b)]
                self.assertIn(gcd_of(a, b), common)
                self.assertTrue(all(divides(m, gcd_of(a, b)) for m in common))
                self.assertEqual(times(cut(a, b), gcd_of(a, b)), a)
                self.assertEqual(times(lcm_of(a, b), gcd_of(a, b)), times(a, b))
                self.assertIs(divides(a, b), a[0] <= b[0] and a[1] <= b[1])

    def test_values_are_plain(self):
        a, b = (3, 0, 2), (1, 4, 2)
        for value in (degree_of(a), support_of(a), divides(a, b), lcm_of(a, b),
                      gcd_of(a, b), times(a, b), cut(a, b)):
            self.assertTrue(is_plain(value))
        self.assertEqual((a, b), ((3, 0, 2), (1, 4, 2)))


if __name__ == "__main__":
    unittest.main()
