"""Duals, and ideals broken up: [9] and [10]."""

import unittest
from itertools import product

from jointneeds.components import components, ideal_of_components
from jointneeds.duals import broken_up, dual_of
from jointneeds.errors import NotBelow, TooMany
from jointneeds.ideals import breach
from jointneeds.operations import meet_of, sum_of

from tests.boxes import (
    all_ideals, divisors, error_raised, ideal, lies, minus, placed, squarefree, stair, twice, under, variable,
)

# An ideal with 61 components.
SIXTY_ONE = (7, ((1, 1, 3, 4, 0, 3, 0), (1, 2, 1, 3, 1, 0, 2), (1, 3, 4, 1, 0, 1, 1), (2, 0, 2, 2, 4, 2, 2),
                 (2, 1, 1, 0, 4, 0, 3), (3, 2, 4, 2, 0, 4, 1), (3, 4, 1, 1, 0, 0, 3)))


def rows_of_stairs(*many):
    """An ideal whose components are one of many each for pairs of variables."""
    generators = []
    for k, count in enumerate(many):
        steps = [(j + 1, count - 1 - j) for j in range(count - 1)]
        generators.extend(placed(2 * len(many), (2 * k, 2 * k + 1), steps))
    return ideal(2 * len(many), generators)


class DualTests(unittest.TestCase):

    def test_by_hand(self):
        # The components are (1, 3) and (2, 1).
        value = (2, ((0, 3), (1, 1), (2, 0)))
        self.assertEqual(twice(self, dual_of, value, (2, 3)), (2, ((1, 3), (2, 1))))
        self.assertEqual(twice(self, dual_of, value, (4, 3)), (2, ((3, 3), (4, 1))))
        self.assertEqual(dual_of((2, ((2, 1),)), (2, 1)), (2, ((0, 1), (1, 0))))
        self.assertEqual(dual_of((2, ((2, 1),)), (3, 5)), (2, ((0, 5), (2, 0))))
        self.assertEqual(dual_of((3, ((0, 1, 2),)), (5, 1, 2)), (3, ((0, 0, 1), (0, 1, 0))))
        triangle = squarefree(3, (0, 1), (0, 2), (1, 2))
        self.assertEqual(dual_of(triangle, (1, 1, 1)), triangle)

    def test_zero_ideal_and_whole_ring(self):
        for n in (1, 2, 8):
            for c in ((0,) * n, (1,) * n, (60,) * n):
                self.assertEqual(dual_of((n, ()), c), (n, ((0,) * n,)))
                self.assertEqual(dual_of((n, ((0,) * n,)), c), (n, ()))

    def test_exponents_1_and_60(self):
        self.assertEqual(dual_of((1, ((60,),)), (60,)), (1, ((1,),)))
        self.assertEqual(dual_of((1, ((1,),)), (60,)), (1, ((60,),)))
        self.assertEqual(dual_of((1, ((1,),)), (1,)), (1, ((1,),)))
        high = tuple(tuple(60 * exponent for exponent in variable(8, k)) for k in range(7, -1, -1))
        self.assertEqual(dual_of((8, high), (60,) * 8), (8, ((1,) * 8,)))

    def tried(self):
        """Ideals, and monomials that all of their generators divide."""
        for n, top in ((1, 4), (2, 2), (3, 1)):
            for value in all_ideals(n, top):
                yield value, (top,) * n
                yield value, tuple(top + k for k in range(n))
        for value in all_ideals(3, 2)[::9]:
            yield value, (2, 3, 2)

    def test_what_lies_outside_turned_around(self):
        for value, c in self.tried():
            dual = twice(self, dual_of, value, c)
            self.assertIsNone(breach(dual))
            self.assertEqual(dual[0], value[0])
            self.assertTrue(all(under(generator, c) for generator in dual[1]))
            for m in divisors(c):
                self.assertEqual(lies(dual[1], m), not lies(value[1], minus(c, m)), (value, c, m))

    def test_the_dual_of_the_dual(self):
        for value, c in self.tried():
            self.assertEqual(dual_of(dual_of(value, c), c), value)

    def test_sums_and_meets(self):
        ideals = all_ideals(2, 2)
        for c in ((2, 2), (3, 2)):
            duals = [dual_of(value, c) for value in ideals]
            for a, dual_a in zip(ideals, duals):
                for b, dual_b in zip(ideals, duals):
                    self.assertEqual(dual_of(sum_of(a, b), c), meet_of(dual_a, dual_b))
                    self.assertEqual(dual_of(meet_of(a, b), c), sum_of(dual_a, dual_b))


class DualErrorTests(unittest.TestCase):

    def test_the_first_generator_that_does_not_divide(self):
        value = (2, ((0, 3), (1, 1), (2, 0)))
        for c, place in (((2, 2), 0), ((1, 3), 2), ((0, 3), 1), ((0, 0), 0), ((60, 0), 0), ((0, 60), 1),
                         ((1, 60), 2)):
            with self.subTest(c):
                error_raised(self, NotBelow, {"place": place}, dual_of, value, c)
        error_raised(self, NotBelow, {"place": 0}, dual_of, (1, ((60,),)), (59,))
        error_raised(self, NotBelow, {"place": 9}, dual_of, (2, stair(9)), (8, 9))

    def test_all_pairs_in_a_box(self):
        for value in all_ideals(2, 2):
            for c in product(range(3), repeat=2):
                places = [k for k, generator in enumerate(value[1]) if not under(generator, c)]
                if places:
                    error_raised(self, NotBelow, {"place": places[0]}, dual_of, value, c)
                else:
                    dual_of(value, c)

    def test_sixty_and_more_generators(self):
        sixty = rows_of_stairs(3, 4, 5)
        self.assertEqual(len(components(sixty)), 60)
        self.assertEqual(len(dual_of(sixty, (60,) * 6)[1]), 60)
        self.assertEqual(len(components(SIXTY_ONE)), 61)
        error_raised(self, TooMany, {"limit": 60}, dual_of, SIXTY_ONE, (4,) * 7)
        error_raised(self, TooMany, {"limit": 60}, dual_of, rows_of_stairs(4, 4, 4), (60,) * 6)

    def test_small(self):
        self.assertEqual(len(dual_of((2, stair(9)), (9, 9))[1]), 9)
        dual_of((8, ((1,) * 8,)), (1,) * 8)
        for value in ((9, ()), (9, ((1,) * 9,)), (12, ((0,) * 12,))):
            error_raised(self, TooMany, {"limit": 8}, dual_of, value, (60,) * value[0])
        error_raised(self, TooMany, {"limit": 10}, dual_of, (2, stair(10)), (10, 10))

    def test_several_at_once(self):
        wide = ideal(9, placed(9, (0, 1), stair(10)))
        error_raised(self, TooMany, {"limit": 8}, dual_of, wide, (10,) * 9)
        error_raised(self, TooMany, {"limit": 8}, dual_of, wide, (0,) * 9)
        error_raised(self, TooMany, {"limit": 8}, dual_of, (9, ((1,) * 9,)), (0,) * 9)
        error_raised(self, TooMany, {"limit": 10}, dual_of, (2, stair(10)), (0, 0))
        error_raised(self, NotBelow, {"place": 0}, dual_of, SIXTY_ONE, (0,) * 7)
        error_raised(self, NotBelow, {"place": 6}, dual_of, SIXTY_ONE, (4, 3, 4, 4, 4, 4, 4))


class BrokenUpTests(unittest.TestCase):

    def test_by_hand(self):
        other = (4, ((0, 1, 1, 1), (1, 1, 0, 0)))
        names = ((0, 1), (1, 1), (1, 2), (1, 3))
        self.assertEqual(twice(self, broken_up, (2, ((0, 3), (1, 1)))), (other, names))
        other = (5, ((0, 0, 1, 1, 1), (1, 0, 1, 0, 0), (1, 1, 0, 0, 0)))
        names = ((0, 1), (0, 2), (1, 1), (1, 2), (1, 3))
        self.assertEqual(broken_up((2, ((0, 3), (1, 1), (2, 0)))), (other, names))
        # A variable that stands in no generator has no name.
        self.assertEqual(broken_up((3, ((0, 0, 2), (1, 0, 0)))),
                         ((3, ((0, 1, 1), (1, 0, 0))), ((0, 1), (2, 1), (2, 2))))
        self.assertEqual(broken_up((1, ((2,),))), ((2, ((1, 1),)), ((0, 1), (0, 2))))

    def test_no_pair(self):
        for n in (1, 2, 12):
            self.assertEqual(twice(self, broken_up, (n, ())), ((1, ()), ()))
            self.assertEqual(twice(self, broken_up, (n, ((0,) * n,))), ((1, ((0,),)), ()))

    def test_squarefree_ideals_stay(self):
        triangle = squarefree(3, (0, 1), (0, 2), (1, 2))
        self.assertEqual(broken_up(triangle), (triangle, ((0, 1), (1, 1), (2, 1))))
        self.assertEqual(broken_up((12, ((1,) * 12,))), ((12, ((1,) * 12,)), tuple((k, 1) for k in range(12))))

    def test_each_generator_of_small_ideals(self):
        for n, top in ((1, 4), (2, 3), (3, 1)):
            for value in all_ideals(n, top) + all_ideals(3, 2)[::11]:
                (many, generators), names = broken_up(value)
                tops = [max((g[k] for g in value[1]), default=0) for k in range(value[0])]
                self.assertEqual(names, tuple((k, j) for k, high in enumerate(tops) for j in range(1, high + 1)))
                self.assertEqual(many, max(len(names), 1))
                self.assertIsNone(breach((many, generators)))
                expected = [tuple(int(j <= g[k]) for k, j in names) or (0,) for g in value[1]]
                self.assertEqual(sorted(generators), sorted(expected))

    def test_twelve_and_thirteen_pairs(self):
        self.assertEqual(broken_up((1, ((12,),))), ((12, ((1,) * 12,)), tuple((0, k) for k in range(1, 13))))
        other, names = broken_up((2, ((0, 6), (6, 0))))
        self.assertEqual(other, (12, ((0,) * 6 + (1,) * 6, (1,) * 6 + (0,) * 6)))
        self.assertEqual(names[5:7], ((0, 6), (1, 1)))
        error_raised(self, TooMany, {"limit": 12}, broken_up, (1, ((13,),)))
        error_raised(self, TooMany, {"limit": 12}, broken_up, (2, ((0, 7), (6, 0))))
        error_raised(self, TooMany, {"limit": 12}, broken_up, (12, ((60,) * 12,)))
        error_raised(self, TooMany, {"limit": 12}, broken_up, (12, ((1,) * 11 + (2,),)))

    def test_an_ideal_need_not_be_small(self):
        self.assertEqual(broken_up((9, ((1,) * 9,)))[0], (9, ((1,) * 9,)))
        pairs = squarefree(12, *[(k, (k + 1) % 12) for k in range(12)])
        self.assertEqual(broken_up(pairs)[0], pairs)
        triples = [triple for triple in product(range(4), repeat=4) if sum(triple) == 3]
        self.assertEqual(len(broken_up(ideal(4, triples))[0][1]), 20)

    def test_the_needed_components_are_told_by_steps(self):
        """The components of the broken up ideal have one name of a variable at most."""
        for value in all_ideals(2, 3):
            other, names = broken_up(value)
            if other[0] <= 8:
                for part in components(other):
                    variables = [names[k][0] for k, entry in enumerate(part) if entry]
                    self.assertEqual(len(variables), len(set(variables)))
                self.assertEqual(ideal_of_components(other[0], components(other)), other)


if __name__ == "__main__":
    unittest.main()
