"""Ideals from monomials, and what lies in them: [5]."""

import unittest

from jointneeds.errors import TooGreat, TooMany
from jointneeds.ideals import breach, contains, ideal_of, is_within

from tests.boxes import all_ideals, box, is_plain, lies, limit_raised, stair


class IdealOfTests(unittest.TestCase):

    def test_by_hand(self):
        self.assertEqual(ideal_of(2, [(2, 0), (1, 1), (0, 3)]), (2, ((0, 3), (1, 1), (2, 0))))
        self.assertEqual(ideal_of(2, [(2, 1), (1, 1), (1, 4)]), (2, ((1, 1),)))
        self.assertEqual(ideal_of(3, [(0, 1, 1), (1, 0, 1), (1, 1, 1)]), (3, ((0, 1, 1), (1, 0, 1))))

    def test_no_monomials_make_the_zero_ideal(self):
        for n in (1, 2, 12):
            self.assertEqual(ideal_of(n, []), (n, ()))
            self.assertEqual(ideal_of(n, ()), (n, ()))

    def test_one_makes_the_whole_ring(self):
        self.assertEqual(ideal_of(2, [(5, 5), (0, 0), (1, 0)]), (2, ((0, 0),)))
        self.assertEqual(ideal_of(12, [(1,) * 12, (0,) * 12]), (12, ((0,) * 12,)))

    def test_one_variable(self):
        self.assertEqual(ideal_of(1, [(60,), (7,), (12,)]), (1, ((7,),)))
        self.assertEqual(ideal_of(1, [(60,)]), (1, ((60,),)))

    def test_lists_and_tuples(self):
        monomials = [(3, 0), (1, 2), (1, 3), (0, 60)]
        self.assertEqual(ideal_of(2, monomials), (2, ((0, 60), (1, 2), (3, 0))))
        self.assertEqual(ideal_of(2, tuple(monomials)), ideal_of(2, monomials))

    def test_the_same_monomial_many_times(self):
        self.assertEqual(ideal_of(2, [(1, 2)] * 1000), (2, ((1, 2),)))
        self.assertEqual(ideal_of(2, stair(59) * 20), (2, stair(59)))

    def test_a_list_is_not_changed(self):
        monomials = [(3, 0), (1, 3), (1, 2), (3, 0)]
        ideal_of(2, monomials)
        self.assertEqual(monomials, [(3, 0), (1, 3), (1, 2), (3, 0)])

    def test_all_pairs_and_triples_of_a_box(self):
        monomials = box(2, 2)
        for a in monomials:
            for b in monomials:
                for c in monomials:
                    made = ideal_of(2, [a, b, c])
                    self.assertIsNone(breach(made))
                    self.assertTrue(is_plain(made))
                    self.assertTrue(set(made[1]) <= {a, b, c})
                    for m in monomials:
                        self.assertEqual(lies(made[1], m), lies([a, b, c], m))


class IdealOfBoundsTests(unittest.TestCase):

    def test_sixty_generators(self):
        self.assertEqual(ideal_of(2, list(reversed(stair(59)))), (2, stair(59)))

    def test_sixty_one_generators(self):
        limit_raised(self, TooMany, ideal_of, 2, stair(60))

    def test_more_monomials_but_sixty_generators(self):
        self.assertEqual(ideal_of(2, stair(60) + stair(59) + stair(61)), (2, stair(59)))

    def test_exponents_at_and_above_sixty(self):
        self.assertEqual(ideal_of(2, [(60, 60)]), (2, ((60, 60),)))
        limit_raised(self, TooGreat, ideal_of, 1, [(61,)])
        limit_raised(self, TooGreat, ideal_of, 2, [(0, 61), (3, 0)])
        limit_raised(self, TooGreat, ideal_of, 12, [(0,) * 11 + (10 ** 9,)])

    def test_great_exponents_that_are_not_needed(self):
        self.assertEqual(ideal_of(1, [(61,), (3,)]), (1, ((3,),)))
        self.assertEqual(ideal_of(2, [(0, 60), (10 ** 9, 60)]), (2, ((0, 60),)))

    def test_both_bounds_broken(self):
        limit_raised(self, TooMany, ideal_of, 2, stair(61))

    def test_great_exponents_with_sixty_generators(self):
        monomials = [(k, 61 - k) for k in range(60)]
        limit_raised(self, TooGreat, ideal_of, 2, monomials)


class ContainsTests(unittest.TestCase):

    def test_by_hand(self):
        ideal = (2, ((0, 3), (1, 1)))
        for monomial in ((0, 3), (1, 1), (1, 2), (7, 1), (0, 60)):
            self.assertIs(contains(ideal, monomial), True)
        for monomial in ((0, 0), (0, 2), (1, 0), (60, 0)):
            self.assertIs(contains(ideal, monomial), False)

    def test_exponents_of_any_size(self):
        ideal = (2, ((0, 3), (1, 1)))
        self.assertIs(contains(ideal, (10 ** 40, 0)), False)
        self.assertIs(contains(ideal, (10 ** 40, 1)), True)
        self.assertIs(contains((1, ((60,),)), (10 ** 40,)), True)

    def test_zero_ideal_and_whole_ring(self):
        for n in (1, 12):
            self.assertIs(contains((n, ()), (0,) * n), False)
            self.assertIs(contains((n, ()), (10 ** 9,) * n), False)
            self.assertIs(contains((n, ((0,) * n,)), (0,) * n), True)
            self.assertIs(contains((n, ((0,) * n,)), (61,) * n), True)

    def test_sixty_generators(self):
        for k in range(60):
            self.assertIs(contains((2, stair(59)), (k, 59 - k)), True)
            self.assertIs(contains((2, stair(59)), (k, 58 - k)), False)

    def test_all_of_a_box(self):
        for ideal in all_ideals(2, 2):
            for monomial in box(2, 4):
                self.assertIs(contains(ideal, monomial), lies(ideal[1], monomial))


class IsWithinTests(unittest.TestCase):

    def test_by_hand(self):
        a, b = (2, ((0, 3), (2, 1))), (2, ((0, 2), (1, 1)))
        self.assertIs(is_within(a, b), True)
        self.assertIs(is_within(b, a), False)
        self.assertIs(is_within(a, a), True)
        self.assertIs(is_within((2, ((0, 3), (1, 0))), b), False)

    def test_zero_ideal_and_whole_ring(self):
        for n in (1, 12):
            zero, whole, some = (n, ()), (n, ((0,) * n,)), (n, ((1,) * n,))
            self.assertIs(is_within(zero, zero), True)
            self.assertIs(is_within(zero, some), True)
            self.assertIs(is_within(some, zero), False)
            self.assertIs(is_within(some, whole), True)
            self.assertIs(is_within(whole, some), False)
            self.assertIs(is_within(whole, whole), True)

    def test_all_pairs_of_a_box(self):
        for n, top in ((2, 2), (3, 1), (1, 3)):
            ideals = all_ideals(n, top)
            inside = {
                ideal: {m for m in box(n, top) if lies(ideal[1], m)} for ideal in ideals
            }
            for a in ideals:
                for b in ideals:
                    self.assertIs(is_within(a, b), inside[a] <= inside[b])


if __name__ == "__main__":
    unittest.main()
