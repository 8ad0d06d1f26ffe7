"""The shape of ideals and complexes: [25] and [26]."""

import unittest
from itertools import combinations
from random import Random

from jointneeds.complexes import ideal_of_complex
from jointneeds.components import dimension
from jointneeds.duals import dual_of
from jointneeds.errors import TooMany
from jointneeds.needs import common_multiples, needs_by_cuts
from jointneeds.shapes import balance_breach, breadth_of, depth_of, is_balanced, is_straight, length_of

from tests.boxes import (
    CORNER, FLAT_PLANE, PLANE, all_complexes, all_ideals, error_raised, faces_under, greatest, holes_by_ranks, ideal,
    placed, six_at_most, small_wanted, squarefree, stair, subsets, twice, variable,
)

PRIMES = (0, 2, 3, 5, 7)
ASKED = (length_of, depth_of, breadth_of, is_balanced, is_straight)

# Ideals over any prime: their length, depth and breadth, whether they are balanced, and straight.
SHAPES = [
    ((1, ()), 0, 1, 0, True, False),
    ((8, ()), 0, 8, 0, True, False),
    ((1, ((1,),)), 1, 0, 0, True, True),
    ((1, ((60,),)), 1, 0, 59, True, True),
    ((3, ((0, 2, 1),)), 1, 2, 2, True, True),
    ((2, ((0, 1), (1, 0))), 2, 0, 0, True, True),
    ((2, ((0, 2), (1, 0))), 2, 0, 1, True, False),
    ((2, ((0, 2), (2, 0))), 2, 0, 2, True, False),
    ((2, ((0, 2), (1, 1), (2, 0))), 2, 0, 1, True, True),
    ((2, ((0, 2), (1, 1))), 2, 0, 1, False, True),
    ((2, ((1, 2), (2, 1))), 2, 0, 2, False, True),
    (CORNER, 2, 0, 2, True, False),
    ((3, ((0, 1, 1), (1, 0, 1), (1, 1, 0))), 2, 1, 1, True, True),
    ((3, ((0, 1, 1), (1, 0, 1))), 2, 1, 1, False, True),
    ((4, ((0, 0, 1, 1), (1, 1, 0, 0))), 2, 2, 2, True, False),
    # Two edges that have nothing in common, and two lines that meet nowhere.
    (squarefree(4, (0, 2), (0, 3), (1, 2), (1, 3)), 3, 1, 1, False, True),
    # A path with four edges, and a ring of five.
    (squarefree(5, (0, 1), (1, 2), (2, 3), (3, 4)), 3, 2, 2, False, False),
    (squarefree(5, (0, 1), (1, 2), (2, 3), (3, 4), (0, 4)), 3, 2, 2, True, False),
    # Generators of one degree, and a need at step 2 that is too great.
    ((2, ((0, 3), (1, 2), (3, 0))), 2, 0, 3, True, False),
    # Each step rises by one, but the generators are of two degrees.
    ((2, ((0, 3), (1, 1))), 2, 0, 2, False, False),
]

# Complexes over any prime: the first face whose link has a low hole, and its dimension.
LINKS = [
    ((), None),
    (((),), None),
    (((0,),), None),
    (((3,), (7,), (11,)), None),
    (((0, 1), (1, 2)), None),
    (((0, 1), (0, 2), (1, 2)), None),
    (((0, 1), (2,)), ((), 0)),
    (((0, 1), (2, 3)), ((), 0)),
    (((0, 1, 2), (2, 3, 4)), ((2,), 0)),
    (((0, 1, 2), (2, 3)), ((2,), 0)),
    (((0, 1, 2), (0, 3), (1, 3)), ((), 1)),
    (((0, 1, 2, 3), (2, 3, 4, 5)), ((2, 3), 0)),
    # A ring of four edges, with a triangle at each.
    (((0, 1, 4), (1, 2, 5), (2, 3, 6), (0, 3, 7)), ((), 1)),
    (((0, 1, 2), (3, 4, 5)), ((), 0)),
    # A point beside the surface of a ball; and a ring, so that there are low holes of two dimensions.
    (tuple(combinations(range(4), 3)) + ((4,),), ((), 0)),
    (tuple(combinations(range(4), 3)) + ((4, 5), (4, 6), (5, 6)), ((), 0)),
    (tuple(combinations(range(5), 4)) + ((5, 6), (5, 7), (6, 7)), ((), 0)),
    (tuple(sorted(list(combinations(range(5), 4)) + [(0, 5), (0, 6), (5, 6)])), ((), 1)),
    (((0, 1, 2, 3), (0, 4), (1, 4)), ((), 1)),
    (tuple(combinations(range(6), 5)), None),
]


def shape_of(value, prime):
    """Length, depth, breadth, balance and straightness, by the list of needs."""
    n, generators = value
    needs = needs_by_cuts(value, prime)
    length = max(i for i, _, _ in needs)
    breadth = max(sum(m) - i for i, m, _ in needs)
    degrees = {sum(g) for g in generators}
    straight = len(degrees) == 1 and all(sum(m) - i + 1 in degrees for i, m, _ in needs if i)
    return (length, n - length, breadth, n - length == dimension(value), straight)


def breach_by_links(facets, prime):
    """The first face, and its least dimension, found among all faces and their links."""
    faces = faces_under(facets)
    for face in sorted(faces, key=lambda face: (len(face), face)):
        around = [other for other in faces if not set(other) & set(face) and tuple(sorted(other + face)) in faces]
        numbers = holes_by_ranks(around, prime)
        for k, number in enumerate(numbers[:-1]):
            if number:
                return (face, k - 1)
    return None


def some_ideals():
    """Proper ideals."""
    return six_at_most() + [value for value in all_ideals(3, 2)[::70] if value[1] != ((0, 0, 0),)]


def some_squarefree():
    """Squarefree proper ideals other than the zero ideal."""
    random = Random(26)
    found = [value for value in all_ideals(3, 1) if value[1] and any(value[1][0])]
    for _ in range(40):
        n = random.randint(4, 6)
        lots = random.sample([lot for lot in subsets(range(n)) if len(lot) in (2, 3)], 6)
        found.append(squarefree(n, *[lot for lot in lots if not any(set(o) < set(lot) for o in lots)]))
    return [value for value in found if len(value[1]) <= 10]


class ShapeTests(unittest.TestCase):

    def test_by_hand(self):
        for value, *shape in SHAPES:
            for prime in PRIMES:
                for ask, expected in zip(ASKED, shape):
                    with self.subTest(value=value, prime=prime, ask=ask.__name__):
                        found = twice(self, ask, value, prime)
                        self.assertEqual(found, expected)
                        self.assertIs(type(found), type(expected))

    def test_by_the_needs(self):
        for value in some_ideals():
            for prime in (0, 2):
                self.assertEqual(tuple(ask(value, prime) for ask in ASKED), shape_of(value, prime))

    def test_zero_ideal_and_whole_ring(self):
        for n in (1, 3, 8):
            for prime in PRIMES:
                self.assertIs(is_straight((n, ()), prime), False)
                self.assertIs(is_straight((n, ((0,) * n,)), prime), False)

    def test_straight_is_not_only_asked_of_the_last_need(self):
        """A need of too great a degree at step 2, and none at the last step that is so."""
        value = squarefree(6, (0, 1), (0, 2), (0, 3), (4, 5))
        self.assertEqual(shape_of(value, 0)[4], False)
        self.assertIs(is_straight(value, 0), False)

    def test_the_depth_is_never_greater_than_the_dimension(self):
        for value in some_ideals() + some_squarefree():
            self.assertLessEqual(depth_of(value, 0), dimension(value))

    def test_the_prime_counts(self):
        plane = ideal_of_complex(6, PLANE)
        for prime in PRIMES:
            self.assertEqual(length_of(plane, prime), 4 if prime == 2 else 3)
            self.assertEqual(depth_of(plane, prime), 2 if prime == 2 else 3)
            self.assertEqual(breadth_of(plane, prime), 3 if prime == 2 else 2)
            self.assertIs(is_balanced(plane, prime), prime != 2)
            # It is its own dual.
            self.assertIs(is_straight(plane, prime), prime != 2)

    def test_duals_of_squarefree_ideals(self):
        both = {}
        for value in some_squarefree():
            dual = dual_of(value, (1,) * value[0])
            if len(dual[1]) > 10 or len(common_multiples(dual)) > 128:
                continue
            for prime in (0, 2):
                self.assertEqual(length_of(value, prime), 1 + breadth_of(dual, prime))
                self.assertEqual(is_balanced(value, prime), is_straight(dual, prime))
                both[is_balanced(value, prime)] = True
        self.assertEqual(len(both), 2)

    def test_powers_of_all_variables(self):
        value = ideal(3, [(j, k, 3 - j - k) for j in range(4) for k in range(4 - j)])
        self.assertEqual(shape_of(value, 3), (3, 0, 2, True, True))
        self.assertEqual(tuple(ask(value, 3) for ask in ASKED), (3, 0, 2, True, True))


class ShapeLimitTests(unittest.TestCase):

    def test_small_ideals(self):
        for ask in ASKED:
            with self.subTest(ask.__name__):
                small_wanted(self, ask, 0)
                small_wanted(self, ask, 7)

    def test_common_multiples(self):
        seven = (7, tuple(variable(7, k) for k in range(6, -1, -1)))
        eight = (8, tuple(variable(8, k) for k in range(7, -1, -1)))
        more = ideal(8, [(0, 0, 0, 1, 2, 1, 0, 0), (0, 0, 1, 0, 1, 0, 0, 2), (0, 1, 2, 0, 0, 0, 1, 2),
                         (0, 2, 0, 2, 1, 0, 0, 0), (0, 2, 1, 0, 0, 0, 1, 0), (1, 0, 0, 0, 0, 0, 2, 1),
                         (1, 0, 1, 0, 0, 1, 0, 2), (2, 0, 0, 0, 1, 0, 0, 0)])
        self.assertEqual(len(common_multiples(seven)), 128)
        self.assertEqual(len(common_multiples(more)), 129)
        for ask, expected in zip(ASKED, (7, 0, 0, True, True)):
            self.assertEqual(ask(seven, 2), expected)
            for value in (eight, more):
                error_raised(self, TooMany, {"limit": 128}, ask, value, 2)

    def test_ten_generators(self):
        for ask, expected in zip(ASKED, (2, 0, 8, True, True)):
            self.assertEqual(ask((2, stair(9)), 5), expected)
        for ask, expected in zip(ASKED, (2, 6, 8, True, True)):
            self.assertEqual(ask(ideal(8, placed(8, (0, 7), stair(9))), 5), expected)


class BalanceTests(unittest.TestCase):

    def test_by_hand(self):
        for facets, expected in LINKS:
            for prime in PRIMES:
                with self.subTest(facets=facets, prime=prime):
                    self.assertEqual(breach_by_links(facets, prime), expected)
                    self.assertEqual(twice(self, balance_breach, facets, prime), expected)

    def test_all_small_complexes(self):
        for v in range(5):
            for facets in all_complexes(v):
                for prime in (0, 2):
                    self.assertEqual(balance_breach(facets, prime), breach_by_links(facets, prime), facets)

    def test_some_larger_ones(self):
        random = Random(62)
        found = {}
        for _ in range(60):
            faces = [face for face in subsets(range(6)) if 2 <= len(face) <= 4]
            facets = greatest(random.sample(faces, random.randint(3, 16)))
            for prime in (0, 3):
                breach = balance_breach(facets, prime)
                self.assertEqual(breach, breach_by_links(facets, prime))
                found[breach and (len(breach[0]), breach[1])] = True
        self.assertGreater(len(found), 4)

    def test_the_prime_counts(self):
        for prime in PRIMES:
            self.assertEqual(balance_breach(PLANE, prime), ((), 1) if prime == 2 else None)
            cone = tuple(facet + (7,) for facet in PLANE)
            self.assertEqual(balance_breach(cone, prime), ((7,), 1) if prime == 2 else None)
        self.assertEqual(balance_breach(FLAT_PLANE, 2), breach_by_links(FLAT_PLANE, 2))

    def test_the_ideal_of_the_complex(self):
        """Balanced exactly if there is no breach, for each number of vertices that is let."""
        compared = 0
        for v in range(1, 5):
            for facets in all_complexes(v)[1::3]:
                if facets == ():
                    continue
                value = ideal_of_complex(v, facets)
                for prime in (0, 2):
                    self.assertEqual(is_balanced(value, prime), balance_breach(facets, prime) is None)
                    compared += 1
        self.assertGreater(compared, 60)
        for prime in PRIMES:
            value = ideal_of_complex(6, PLANE)
            self.assertEqual(is_balanced(value, prime), balance_breach(PLANE, prime) is None)

    def test_300_faces(self):
        # All faces of eight vertices, and of four others, and so many edges between.
        pairs = [(j, k) for j in range(8) for k in range(8, 12)]
        for many in (300, 301):
            facets = tuple(sorted([tuple(range(8)), tuple(range(8, 12))] + pairs[:many - 271]))
            self.assertEqual(len(faces_under(facets)), many)
            if many == 300:
                self.assertEqual(balance_breach(facets, 2), ((), 1))
            else:
                error_raised(self, TooMany, {"limit": 300}, balance_breach, facets, 2)
        error_raised(self, TooMany, {"limit": 300}, balance_breach, (tuple(range(12)),), 0)
        error_raised(self, TooMany, {"limit": 300}, balance_breach, (tuple(range(9)),), 0)
        self.assertIsNone(balance_breach((tuple(range(8)),), 0))


if __name__ == "__main__":
    unittest.main()
