"""Ideals in two variables: [34]."""

import unittest
from fractions import Fraction
from itertools import combinations_with_replacement
from random import Random

from jointneeds.errors import NotTwo, TooMany
from jointneeds.ideals import breach, ideal_of
from jointneeds.needs import needs_by_cuts
from jointneeds.stairs import closed_up, hull_corners, stairs

from tests.boxes import (
    CORNER, all_ideals, box, error_raised, ideal, lcm, lies, limit_raised, placed, plus, stair, twice, under,
)

# Ideals, their stairs, corners, and the generators of what they are closed up to.
BY_HAND = [
    ((2, ()), (), (), ()),
    ((2, ((0, 0),)), (), ((0, 0),), ((0, 0),)),
    ((2, ((3, 5),)), (), ((3, 5),), ((3, 5),)),
    ((2, ((60, 60),)), (), ((60, 60),), ((60, 60),)),
    ((2, ((0, 1), (1, 0))), ((1, 1),), ((0, 1), (1, 0)), ((0, 1), (1, 0))),
    ((2, ((0, 2), (2, 0))), ((2, 2),), ((0, 2), (2, 0)), ((0, 2), (1, 1), (2, 0))),
    # The generator in the middle lies on the line, below it, and above it.
    ((2, ((0, 2), (1, 1), (2, 0))), ((1, 2), (2, 1)), ((0, 2), (2, 0)), ((0, 2), (1, 1), (2, 0))),
    (CORNER, ((1, 3), (2, 1)), ((0, 3), (1, 1), (2, 0)), ((0, 3), (1, 1), (2, 0))),
    ((2, ((0, 3), (2, 2), (3, 0))), ((2, 3), (3, 2)), ((0, 3), (3, 0)), ((0, 3), (1, 2), (2, 1), (3, 0))),
    ((2, ((0, 3), (2, 0))), ((2, 3),), ((0, 3), (2, 0)), ((0, 3), (1, 2), (2, 0))),
    ((2, ((0, 4), (2, 0))), ((2, 4),), ((0, 4), (2, 0)), ((0, 4), (1, 2), (2, 0))),
    ((2, ((0, 2), (5, 0))), ((5, 2),), ((0, 2), (5, 0)), ((0, 2), (3, 1), (5, 0))),
    ((2, ((1, 4), (4, 1))), ((4, 4),), ((1, 4), (4, 1)), ((1, 4), (2, 3), (3, 2), (4, 1))),
    ((2, ((0, 7), (3, 3), (4, 2), (9, 0))), ((3, 7), (4, 3), (9, 2)), ((0, 7), (3, 3), (4, 2), (9, 0)),
     ((0, 7), (1, 6), (2, 5), (3, 3), (4, 2), (7, 1), (9, 0))),
    # A corner hides one that was ahead of it, and then the one ahead of that.
    ((2, ((0, 9), (1, 7), (2, 6), (3, 1))), ((1, 9), (2, 7), (3, 6)), ((0, 9), (3, 1)),
     ((0, 9), (1, 7), (2, 4), (3, 1))),
    ((2, ((0, 60), (1, 0))), ((1, 60),), ((0, 60), (1, 0)), ((0, 60), (1, 0))),
]


def lies_in_closure(generators, monomial, most):
    """Whether the k-th power of a monomial lies in the k-th power of an ideal, for some k up to the most."""
    for k in range(1, most + 1):
        power = tuple(k * x for x in monomial)
        for lot in combinations_with_replacement(generators, k):
            product = (0, 0)
            for g in lot:
                product = plus(product, g)
            if under(product, power):
                return True
    return False


def weights_of(generators):
    """Weights above 0 of all kinds: those that make two generators equal, and those between and beyond."""
    slopes = {Fraction(a[1] - b[1], b[0] - a[0]) for k, a in enumerate(generators) for b in generators[k + 1:]}
    slopes = sorted(slopes | {Fraction(1, 10**4), Fraction(10**4)})
    slopes += [(low + high) / 2 for low, high in zip(slopes, slopes[1:])]
    return [(slope, 1) for slope in slopes]


def least_alone(generators, weights):
    """The generators that are alone the least ones for some of the weights."""
    found = set()
    for u, v in weights:
        values = [u * a + v * b for a, b in generators]
        if values.count(min(values)) == 1:
            found.add(generators[values.index(min(values))])
    return tuple(sorted(found))


def not_below(generators, monomial):
    """Whether no line with weights of at least 0 has a monomial below all generators."""
    weights = weights_of(generators) + [(0, 1), (1, 0)]
    a, b = monomial
    return all(u * a + v * b >= min(u * x + v * y for x, y in generators) for u, v in weights)


def ideals_in_two():
    """Ideals in two variables other than the zero ideal and the whole ring."""
    random = Random(34)
    found = all_ideals(2, 3)
    for _ in range(40):
        monomials = [(random.randint(0, 12), random.randint(0, 12)) for _ in range(random.randint(2, 9))]
        found.append(ideal_of(2, monomials))
    return [value for value in found if value[1] and value[1] != ((0, 0),)]


class StairTests(unittest.TestCase):

    def test_by_hand(self):
        for value, steps, corners, closed in BY_HAND:
            with self.subTest(value):
                self.assertEqual(twice(self, stairs, value), steps)
                self.assertEqual(twice(self, hull_corners, value), corners)
                self.assertEqual(twice(self, closed_up, value), (2, closed))

    def test_the_list_of_needs(self):
        for value in ideals_in_two():
            _, generators = value
            expected = [(0, (0, 0), 1)] + [(1, g, 1) for g in generators] + [(2, m, 1) for m in stairs(value)]
            if len(generators) <= 10:
                for prime in (0, 3):
                    self.assertEqual(tuple(sorted(expected)), needs_by_cuts(value, prime))

    def test_neighbours(self):
        for value in ideals_in_two() + [(2, stair(59))]:
            _, generators = value
            self.assertEqual(stairs(value), tuple(lcm(pair, 2) for pair in zip(generators, generators[1:])))


class CornerTests(unittest.TestCase):

    def test_weights(self):
        for value in ideals_in_two():
            _, generators = value
            self.assertEqual(hull_corners(value), least_alone(generators, weights_of(generators)), value)

    def test_great_exponents(self):
        self.assertEqual(hull_corners((2, stair(59))), ((0, 59), (59, 0)))
        # Steps that grow, so that all are corners; and one of them is lifted onto the line.
        steps = [(0, 60), (1, 50), (3, 40), (6, 30), (10, 20), (20, 10), (50, 0)]
        self.assertEqual(hull_corners((2, tuple(steps))), tuple(steps))
        steps[4] = (14, 20)
        self.assertEqual(hull_corners((2, tuple(steps))), tuple(steps[:4] + steps[5:]))
        steps[4] = (13, 20)
        self.assertEqual(hull_corners((2, tuple(steps))), tuple(steps[:4] + steps[5:]))
        steps[4] = (12, 20)
        self.assertEqual(hull_corners((2, tuple(steps))), tuple(steps))


class ClosedTests(unittest.TestCase):

    def test_powers(self):
        for value in all_ideals(2, 3):
            _, generators = value
            if not generators:
                continue
            closed = closed_up(value)
            for monomial in box(2, 4):
                self.assertEqual(lies(closed[1], monomial), lies_in_closure(generators, monomial, 3), (value, monomial))

    def test_lines(self):
        for value in ideals_in_two():
            closed = closed_up(value)
            self.assertIsNone(breach(closed))
            for monomial in box(2, 12):
                self.assertEqual(lies(closed[1], monomial), not_below(value[1], monomial))

    def test_once_is_enough(self):
        for value in ideals_in_two():
            closed = closed_up(value)
            self.assertEqual(closed_up(closed), closed)
            self.assertEqual(hull_corners(closed), hull_corners(value))

    def test_sixty_generators_and_sixty_one(self):
        self.assertEqual(closed_up((2, ((0, 59), (59, 0)))), (2, stair(59)))
        self.assertEqual(closed_up((2, stair(59))), (2, stair(59)))
        limit_raised(self, TooMany, closed_up, (2, ((0, 60), (60, 0))))
        limit_raised(self, TooMany, closed_up, (2, stair(60)[:30] + stair(60)[31:]))
        sixty = closed_up((2, ((0, 60), (59, 0))))
        self.assertEqual(len(sixty[1]), 60)
        # With fewer steps up than along, there are fewer generators.
        self.assertEqual(closed_up((2, ((0, 2), (60, 0)))), (2, ((0, 2), (30, 1), (60, 0))))
        self.assertEqual(closed_up((2, ((0, 60), (2, 0)))), (2, ((0, 60), (1, 30), (2, 0))))


class ErrorTests(unittest.TestCase):

    def test_not_two_variables(self):
        others = [(n, generators) for n in (1, 3, 4, 12) for generators in ((), ((0,) * n,), ((1,) * n,), ((60,) * n,))]
        others += [ideal(3, placed(3, (0, 1), stair(59))), ideal(3, placed(3, (1, 2), [(0, 60), (60, 0)]))]
        for value in others:
            for call in (stairs, closed_up, hull_corners):
                with self.subTest(value=value, call=call.__name__):
                    error_raised(self, NotTwo, {}, call, value)


if __name__ == "__main__":
    unittest.main()
