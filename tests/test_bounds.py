"""The bounds on generators and exponents of what operations return: [5]."""

import unittest
from itertools import combinations

from jointneeds.errors import TooGreat, TooMany
from jointneeds.ideals import breach, ideal_of
from jointneeds.meets import meet_of_rows
from jointneeds.operations import (
    colon_by, colon_of, meet_of, permuted, power_of, product_of, radical_of, saturated, sum_of,
)

from tests.boxes import ideal, limit_raised, placed, plus, stair


class SumBoundsTests(unittest.TestCase):

    def sides(self, first, second):
        """Two ideals of the given degrees that have no variable in common."""
        return ideal(4, placed(4, (0, 1), stair(first))), ideal(4, placed(4, (2, 3), stair(second)))

    def test_sixty_and_sixty_one(self):
        a, b = self.sides(29, 29)
        self.assertEqual(sum_of(a, b), ideal(4, a[1] + b[1]))
        self.assertEqual(len(sum_of(a, b)[1]), 60)
        limit_raised(self, TooMany, sum_of, *self.sides(29, 30))
        limit_raised(self, TooMany, sum_of, *self.sides(30, 29))

    def test_many_on_the_way(self):
        full = (2, stair(59))
        self.assertEqual(sum_of(full, full), full)
        self.assertEqual(sum_of(full, (2, stair(58))), (2, stair(58)))


class ProductBoundsTests(unittest.TestCase):

    def test_sixty_and_sixty_one(self):
        self.assertEqual(product_of((2, stair(29)), (2, stair(30))), (2, stair(59)))
        limit_raised(self, TooMany, product_of, (2, stair(30)), (2, stair(30)))

    def test_exponent_sixty_and_sixty_one(self):
        self.assertEqual(product_of((1, ((59,),)), (1, ((1,),))), (1, ((60,),)))
        limit_raised(self, TooGreat, product_of, (1, ((60,),)), (1, ((1,),)))
        limit_raised(self, TooGreat, product_of, (2, ((0, 60), (1, 0))), (2, ((0, 1), (1, 0))))

    def test_both_broken(self):
        limit_raised(self, TooMany, product_of, (2, stair(30)), (2, stair(31)))
        limit_raised(self, TooMany, product_of, (2, stair(59)), (2, stair(59)))

    def test_great_exponents_on_the_way(self):
        a, b = (3, ((0, 0, 1), (31, 1, 0))), (3, ((0, 1, 0), (31, 0, 1)))
        self.assertEqual(product_of(a, b), (3, ((0, 1, 1), (31, 0, 2), (31, 2, 0))))


class MeetBoundsTests(unittest.TestCase):

    def test_sixty_and_more(self):
        a = ideal(4, placed(4, (0, 1), stair(5)))
        b = ideal(4, placed(4, (2, 3), stair(9)))
        products = [plus(f, g) for f in a[1] for g in b[1]]
        self.assertEqual(meet_of(a, b), ideal(4, products))
        limit_raised(self, TooMany, meet_of, a, ideal(4, placed(4, (2, 3), stair(10))))

    def test_sixty_one(self):
        steps = stair(60)
        a = (2, ((0, 59),) + steps[2:])
        b = (2, steps[:-2] + ((59, 0),))
        self.assertIsNone(breach(a))
        self.assertIsNone(breach(b))
        limit_raised(self, TooMany, meet_of, a, b)
        # On the way there are 120 least common multiples.
        self.assertEqual(meet_of(a, (2, ((0, 59), (59, 0)))), (2, ((0, 59), (59, 1), (60, 0))))

    def test_many_on_the_way(self):
        full = (2, stair(59))
        self.assertEqual(meet_of(full, full), full)

    def test_exponents_stay_within(self):
        self.assertEqual(meet_of((2, ((0, 60),)), (2, ((60, 0),))), (2, ((60, 60),)))


class PowerBoundsTests(unittest.TestCase):

    def variables(self, n):
        return ideal(n, [tuple(int(j == k) for j in range(n)) for k in range(n)])

    def test_generators(self):
        four = self.variables(4)
        self.assertEqual(len(power_of(four, 5)[1]), 56)
        limit_raised(self, TooMany, power_of, four, 6)
        limit_raised(self, TooMany, power_of, self.variables(12), 2)
        self.assertEqual(power_of((2, stair(59)), 1), (2, stair(59)))
        self.assertEqual(power_of((2, stair(59)), 0), (2, ((0, 0),)))

    def test_exponents(self):
        self.assertEqual(power_of((1, ((10,),)), 6), (1, ((60,),)))
        self.assertEqual(power_of((1, ((11,),)), 5), (1, ((55,),)))
        limit_raised(self, TooGreat, power_of, (1, ((11,),)), 6)
        self.assertEqual(power_of((1, ((30,),)), 2), (1, ((60,),)))
        limit_raised(self, TooGreat, power_of, (1, ((31,),)), 2)
        self.assertEqual(power_of((1, ((60,),)), 1), (1, ((60,),)))

    def test_both_broken_by_one_power(self):
        limit_raised(self, TooMany, power_of, (2, stair(59)), 2)

    def test_the_first_power_that_breaks_a_bound_counts(self):
        start = ideal(4, [(31, 0, 0, 0), (0, 1, 0, 0), (0, 0, 1, 0), (0, 0, 0, 1)])
        for k in range(2, 7):
            limit_raised(self, TooGreat, power_of, start, k)
        # The last power alone has too many generators as well.
        limit_raised(self, TooMany, ideal_of, 4, sixfold(start[1]))


def sixfold(generators):
    """The products of all lots of six generators, equal ones among them."""
    products = [(0, 0, 0, 0)]
    for _ in range(6):
        products = sorted({plus(f, g) for f in products for g in generators})
    return products


class FallingPowerTests(unittest.TestCase):
    """Ideals whose third power is within the bounds though the second is not.

    In degree 8 the exponents STEPS of x0 make a square that lacks the
    exponent 6, and a cube that lacks none. So the square of a generator with
    the exponent 3 is needed, and none of its multiples in the cube is.
    """

    STEPS = (0, 1, 4, 7, 8)

    def great(self, exponent):
        """An ideal whose square needs twice an exponent, and its cube none."""
        steps = [(k, 8 - k, 0) for k in self.STEPS]
        return ideal(3, steps + [(3, 5, exponent)])

    def long(self, degree):
        """An ideal whose square needs 16 + 4 degree generators."""
        steps = [(k, 8 - k, 0, 0) for k in self.STEPS]
        return ideal(4, steps + [(3, 5, j, degree - j) for j in range(degree + 1)])

    def cube_of_degree_24(self, n):
        return ideal(n, placed(n, (0, 1), stair(24)))

    def test_great_exponents(self):
        self.assertEqual(power_of(self.great(30), 3), self.cube_of_degree_24(3))
        self.assertIn((6, 10, 60), power_of(self.great(30), 2)[1])
        for k in (2, 3, 4):
            limit_raised(self, TooGreat, power_of, self.great(31), k)

    def test_many_generators(self):
        self.assertEqual(len(power_of(self.long(11), 2)[1]), 60)
        self.assertEqual(power_of(self.long(11), 3), self.cube_of_degree_24(4))
        for k in (2, 3, 4):
            limit_raised(self, TooMany, power_of, self.long(12), k)

    def test_the_cubes_would_be_within_the_bounds(self):
        for start in (self.great(31), self.long(12)):
            n, generators = start
            squares = sorted({plus(f, g) for f in generators for g in generators})
            cubes = sorted({plus(f, g) for f in squares for g in generators})
            self.assertEqual(ideal_of(n, cubes), self.cube_of_degree_24(n))


class ColonBoundsTests(unittest.TestCase):
    """Ideals x4 A + x5 B, with A in x0 and x1 and B in x2 and x3.

    By (x4, x5) such an ideal gives A B + x4 A + x5 B; by (x4, x5, x6) itself.
    """

    def one(self, n, variable):
        """A variable as a monomial."""
        return tuple(int(k == variable) for k in range(n))

    def some(self, n, *variables):
        """The ideal of some variables."""
        return ideal(n, [self.one(n, variable) for variable in variables])

    def joined(self, n, a, b):
        """The generators of x4 A + x5 B."""
        return [plus(f, self.one(n, 4)) for f in a] + [plus(g, self.one(n, 5)) for g in b]

    def test_sixty(self):
        a, b = [self.one(7, 0)], placed(7, (2, 3), stair(28))
        start = self.joined(7, a, b) + [self.one(7, 6)]
        expected = [plus(f, g) for f in a for g in b] + start
        self.assertEqual(len(expected), 60)
        self.assertEqual(colon_of(ideal(7, start), self.some(7, 4, 5)), ideal(7, expected))

    def test_sixty_one(self):
        start = self.joined(6, [self.one(6, 0)], placed(6, (2, 3), stair(29)))
        limit_raised(self, TooMany, colon_of, ideal(6, start), self.some(6, 4, 5))

    def test_far_more(self):
        start = self.joined(6, placed(6, (0, 1), stair(29)), placed(6, (2, 3), stair(29)))
        limit_raised(self, TooMany, colon_of, ideal(6, start), self.some(6, 4, 5))

    def test_many_on_the_way_in_every_sequence(self):
        start = ideal(7, self.joined(7, placed(7, (0, 1), stair(29)), placed(7, (2, 3), stair(29))))
        divisor = self.some(7, 4, 5, 6)
        self.assertEqual(len(start[1]), 60)
        self.assertEqual(colon_of(start, divisor), start)
        for shift in range(1, 7):
            listing = tuple((k + shift) % 7 for k in range(7))
            turned = permuted(start, listing)
            self.assertEqual(colon_of(turned, permuted(divisor, listing)), turned)

    def test_exponents_stay_within(self):
        start = (2, ((60, 60),))
        self.assertEqual(colon_of(start, (2, ((0, 0),))), start)
        self.assertEqual(colon_of(start, (2, ((0, 1), (1, 0)))), start)

    def test_very_many_on_the_way(self):
        """Ten ideals of powers of all variables, and then one that they all contain."""
        rows = [[tuple((j + k) % 12 + 1 if i == j else 0 for i in range(12)) for j in range(12)]
                for k in range(10)]
        limit_raised(self, TooMany, meet_of_rows, 12, rows)
        self.assertEqual(meet_of_rows(12, rows + [[(60,) * 12]]), (12, ((60,) * 12,)))


class NeverBrokenTests(unittest.TestCase):

    def test_sixty_generators_stay_sixty(self):
        full = (2, stair(59))
        self.assertEqual(permuted(full, (1, 0)), full)
        self.assertEqual(colon_by(full, (0, 0)), full)
        self.assertEqual(colon_by(full, (1, 0)), (2, stair(58)))
        self.assertEqual(colon_of(full, (2, ((0, 0),))), full)
        self.assertEqual(colon_of(full, full), (2, ((0, 0),)))
        self.assertEqual(saturated(ideal(3, placed(3, (0, 1), stair(59))), 2),
                         ideal(3, placed(3, (0, 1), stair(59))))
        self.assertEqual(saturated(full, 0), (2, ((0, 0),)))
        self.assertEqual(radical_of(full), (2, ((0, 1), (1, 0))))
        squarefree = [tuple(int(k in pair) for k in range(12)) for pair in combinations(range(12), 2)][:60]
        self.assertEqual(radical_of(ideal(12, squarefree)), ideal(12, squarefree))

    def test_exponents_of_sixty_stay_sixty(self):
        high = (12, ((60,) * 12,))
        self.assertEqual(permuted(high, tuple(range(11, -1, -1))), high)
        self.assertEqual(colon_by(high, (0,) * 12), high)
        self.assertEqual(sum_of(high, high), high)
        self.assertEqual(meet_of(high, high), high)


if __name__ == "__main__":
    unittest.main()
