"""Holes of complexes, chains, their fillings and what shows that there is none: [12] and [14]."""

import unittest
from itertools import combinations, product
from random import Random

from jointneeds.complexes import check_complex
from jointneeds.errors import NotCycle, TooMany
from jointneeds.holes import boundary, counter, filling, holes, is_cycle

from tests.boxes import (
    FLAT_PLANE, PLANE, all_complexes, error_raised, faces_under, greatest, holes_by_ranks, rank, rings, subsets, twice,
)

PRIMES = (0, 2, 3, 5, 7)

SEVEN = (0, 1, 2, 3, 4, 5, 6)
TORUS = tuple(sorted(tuple(sorted((k, (k + a) % 7, (k + 3) % 7))) for k in SEVEN for a in (1, 2)))
OCTAHEDRON = tuple(product((0, 1), (2, 3), (4, 5)))

# Complexes whose holes are the same over every prime.
SHAPES = [
    ((), ()),
    (((),), (1,)),
    (((0,),), (0, 0)),
    (((11,),), (0, 0)),
    (((0,), (1,)), (0, 1)),
    (((0,), (5,), (7,), (11,)), (0, 3)),
    (((0, 1),), (0, 0, 0)),
    (((0, 1), (2,)), (0, 1, 0)),
    (((0, 1), (0, 2), (1, 2)), (0, 0, 1)),
    (((0, 1), (0, 3), (1, 2), (2, 3)), (0, 0, 1)),
    (((0, 1), (0, 2), (1, 2), (3, 4), (3, 5), (4, 5)), (0, 1, 2)),
    (tuple(combinations(range(4), 2)), (0, 0, 3)),
    (((0, 1, 2),), (0, 0, 0, 0)),
    (((0, 1, 2), (3,)), (0, 1, 0, 0)),
    (tuple(combinations(range(4), 3)), (0, 0, 0, 1)),
    (tuple(combinations(range(6), 5)), (0, 0, 0, 0, 0, 1)),
    (tuple(combinations(range(5), 3)), (0, 0, 0, 4)),
    ((tuple(range(8)),), (0,) * 9),
    (tuple(combinations(range(8), 7)), (0,) * 7 + (1,)),
    (OCTAHEDRON, (0, 0, 0, 1)),
    (TORUS, (0, 0, 2, 1)),
    # Cones over two points, over a ring, and over the projective plane.
    (((0, 2), (1, 2)), (0, 0, 0)),
    (((0, 1, 3), (0, 2, 3), (1, 2, 3)), (0, 0, 0, 0)),
    (tuple(facet + (6,) for facet in PLANE), (0, 0, 0, 0, 0)),
    # A disc beside a ring, and a ball's surface with a whisker.
    (((0, 1, 2), (3, 4), (3, 5), (4, 5)), (0, 1, 1, 0)),
    (((0, 1, 2), (0, 1, 3), (0, 2, 3), (1, 2, 3), (3, 4)), (0, 0, 0, 1)),
]

# Complexes that have other holes over one prime: it, these holes, and those over the others.
TWISTED = [
    (PLANE, 2, (0, 0, 1, 1), (0, 0, 0, 0)),
    (FLAT_PLANE, 2, (0, 0, 1, 1, 0, 0), (0, 0, 0, 0, 0, 0)),
    (rings((0, 1, 2), 1), 3, (0, 0, 2, 1), (0, 0, 1, 0)),
    (rings((2, 1, 0), 1), 5, (0, 0, 2, 1), (0, 0, 1, 0)),
    (rings((2, 1, 0), 2), 3, (0, 0, 2, 1), (0, 0, 1, 0)),
    (rings((0, 1, 2), 2), 7, (0, 0, 2, 1), (0, 0, 1, 0)),
]


def with_faces(many):
    """A complex with so many faces, from 271 to 303, the empty one counted."""
    pairs = list(product(range(8), range(8, 12)))[:many - 271]
    return tuple(sorted([tuple(range(8)), tuple(range(8, 12))] + pairs))


def some_complexes():
    """Some complexes with six and seven vertices."""
    random = Random(12)
    for k in range(60):
        v = 6 + k % 2
        faces = [face for face in subsets(range(v)) if 2 <= len(face) <= 4]
        yield greatest(random.sample(faces, random.randint(4, 20)))


class HoleTests(unittest.TestCase):

    def test_shapes(self):
        for facets, expected in SHAPES:
            self.assertEqual(check_complex(12, facets), facets)
            for prime in PRIMES:
                with self.subTest(facets=facets, prime=prime):
                    self.assertEqual(twice(self, holes, facets, prime), expected)

    def test_twisted_shapes(self):
        for facets, one, here, elsewhere in TWISTED:
            self.assertEqual(check_complex(12, facets), facets)
            for prime in PRIMES:
                with self.subTest(facets=facets, prime=prime):
                    expected = here if prime == one else elsewhere
                    self.assertEqual(twice(self, holes, facets, prime), expected)
                    self.assertEqual(holes_by_ranks(facets, prime), expected)

    def test_all_complexes_with_few_vertices(self):
        for v in range(5):
            for facets in all_complexes(v):
                for prime in (0, 2, 7):
                    self.assertEqual(holes(facets, prime), holes_by_ranks(facets, prime), facets)

    def test_some_complexes(self):
        for facets in some_complexes():
            for prime in PRIMES:
                self.assertEqual(holes(facets, prime), holes_by_ranks(facets, prime), facets)

    def test_three_hundred_faces(self):
        for many in (271, 300):
            facets = check_complex(12, with_faces(many))
            self.assertEqual(len(faces_under(facets)), many)
            for prime in (0, 7):
                self.assertEqual(holes(facets, prime), (0, int(many == 271), max(many - 272, 0)) + (0,) * 6)
        for facets in (with_faces(301), (tuple(range(9)),), (tuple(range(12)),), tuple(combinations(range(12), 6))):
            for prime in PRIMES:
                error_raised(self, TooMany, {"limit": 300}, holes, facets, prime)


class BoundaryTests(unittest.TestCase):

    def test_by_hand(self):
        triangle = (((0, 1, 2), 1),)
        self.assertEqual(twice(self, boundary, triangle, 2), (((0, 1), 1), ((0, 2), 1), ((1, 2), 1)))
        self.assertEqual(boundary(triangle, 3), (((0, 1), 1), ((0, 2), 2), ((1, 2), 1)))
        self.assertEqual(boundary(triangle, 7), (((0, 1), 1), ((0, 2), 6), ((1, 2), 1)))
        self.assertEqual(boundary((((0, 1, 2), 3),), 7), (((0, 1), 3), ((0, 2), 4), ((1, 2), 3)))
        self.assertEqual(boundary((((2, 9), 2),), 5), (((2,), 3), ((9,), 2)))
        two = (((0, 1, 2), 1), ((0, 1, 3), 2))
        self.assertEqual(boundary(two, 3), (((0, 2), 2), ((0, 3), 1), ((1, 2), 1), ((1, 3), 2)))
        self.assertEqual(boundary(two, 5), (((0, 1), 3), ((0, 2), 4), ((0, 3), 3), ((1, 2), 1), ((1, 3), 2)))

    def test_points_and_the_empty_face(self):
        for prime in PRIMES[1:]:
            self.assertEqual(boundary((((4,), 1),), prime), (((), 1),))
            self.assertEqual(boundary((((4,), 1), ((5,), prime - 1)), prime), ())
            self.assertEqual(boundary((((), 1),), prime), ())
            self.assertEqual(boundary((), prime), ())
            self.assertTrue(is_cycle((), prime))
            self.assertTrue(is_cycle((((), prime - 1),), prime))

    def test_cycles(self):
        ring = (((0, 1), 1), ((0, 2), 1), ((1, 2), 1))
        self.assertIs(twice(self, is_cycle, ring, 2), True)
        self.assertIs(twice(self, is_cycle, ring, 3), False)
        for prime in PRIMES[1:]:
            for factor in range(1, prime):
                turned = (((0, 1), factor), ((0, 2), prime - factor), ((1, 2), factor))
                self.assertIs(is_cycle(turned, prime), True)
                self.assertIs(is_cycle(turned[:2], prime), False)
                self.assertIs(is_cycle((((0,), factor),), prime), False)
        self.assertIs(is_cycle((((0,), 3), ((1,), 4)), 7), True)
        self.assertIs(is_cycle((((0,), 3), ((1,), 4)), 5), False)

    def test_twice_is_nothing(self):
        for prime in PRIMES[1:]:
            for size in range(1, 6):
                for face in combinations(range(6), size):
                    once = boundary(((face, prime - 1),), prime)
                    self.assertEqual(boundary(once, prime), ())
                    self.assertTrue(is_cycle(once, prime))

    def test_each_part_by_hand(self):
        for size in range(1, 6):
            for face in combinations(range(6), size):
                parts = {face[:k] + face[k + 1:]: (-1) ** k % 5 for k in range(size)}
                self.assertEqual(boundary(((face, 1),), 5), tuple(sorted(parts.items())))


class FillingTests(unittest.TestCase):

    def check_both(self, facets, chain, prime):
        """Check that a cycle has either a filling or what shows that there is none."""
        filled = twice(self, filling, facets, chain, prime)
        against = twice(self, counter, facets, chain, prime)
        self.assertEqual(filled is None, against is not None)
        size = len(chain[0][0]) if chain else 0
        if filled is not None:
            self.check_chain(facets, filled, size + 1, prime)
            self.assertEqual(boundary(filled, prime), chain)
            return True
        self.check_chain(facets, against, size, prime)
        weights = dict(against)
        self.assertNotEqual(sum(weights.get(face, 0) * worth for face, worth in chain) % prime, 0)
        for face in faces_under(facets):
            if len(face) == size + 1:
                ends = boundary(((face, 1),), prime)
                self.assertEqual(sum(weights.get(part, 0) * worth for part, worth in ends) % prime, 0)
        return False

    def check_chain(self, facets, chain, size, prime):
        """Check that a value is a chain of faces of a complex, of a number of vertices."""
        faces = [face for face, _ in chain]
        self.assertEqual(faces, sorted(set(faces)))
        for face, coefficient in chain:
            self.assertIn(face, faces_under(facets))
            self.assertEqual(len(face), size)
            self.assertIs(type(coefficient), int)
            self.assertTrue(1 <= coefficient < prime)

    def test_by_hand(self):
        ring = (((0, 1), 1), ((0, 2), 2), ((1, 2), 1))
        self.assertEqual(filling(((0, 1, 2),), ring, 3), (((0, 1, 2), 1),))
        self.assertIsNone(counter(((0, 1, 2),), ring, 3))
        self.assertIsNone(filling(((0, 1), (0, 2), (1, 2)), ring, 3))
        self.assertFalse(self.check_both(((0, 1), (0, 2), (1, 2)), ring, 3))
        points = (((0,), 2), ((3,), 3))
        self.assertEqual(filling(((0, 3), (1,)), points, 5), (((0, 3), 3),))
        self.assertIsNone(filling(((0, 1), (2, 3)), points, 5))
        self.assertFalse(self.check_both(((0, 1), (2, 3)), points, 5))
        self.assertTrue(self.check_both(((0, 1), (0, 2), (1, 3)), points, 5))

    def test_the_empty_chain(self):
        for facets in ((), ((),), ((0,),), ((0, 1), (2,)), PLANE):
            for prime in PRIMES[1:]:
                self.assertEqual(filling(facets, (), prime), ())
                self.assertIsNone(counter(facets, (), prime))

    def test_the_empty_face(self):
        for prime in PRIMES[1:]:
            for factor in range(1, prime):
                self.assertIsNone(filling(((),), (((), factor),), prime))
                self.assertFalse(self.check_both(((),), (((), factor),), prime))
                self.assertEqual(filling(((4,),), (((), factor),), prime), (((4,), factor),))
                self.assertTrue(self.check_both(((4,), (6,)), (((), factor),), prime))

    def test_cycles_without_larger_faces(self):
        for prime in PRIMES[1:]:
            sphere = boundary((((0, 1, 2, 3), 1),), prime)
            self.assertFalse(self.check_both(tuple(combinations(range(4), 3)), sphere, prime))
            self.assertTrue(self.check_both(((0, 1, 2, 3),), sphere, prime))
            self.assertTrue(self.check_both(((0, 1, 2, 4), (0, 1, 3, 4), (0, 2, 3, 4), (1, 2, 3, 4)), sphere, prime))

    def test_all_complexes_with_four_vertices(self):
        """Of all sums of two boundaries within a complex: whether they have a filling, by ranks."""
        for facets in all_complexes(4):
            faces = faces_under(facets)
            for size in (1, 2, 3):
                upper = sorted(face for face in faces if len(face) == size + 1)
                lower = sorted(face for face in faces if len(face) == size)
                for prime, factor in ((2, 1), (3, 2), (7, 3)):
                    for chain in self.cycles(size, prime, factor):
                        if all(face in faces for face, _ in chain):
                            columns = [dict(boundary(((face, 1),), prime)) for face in upper]
                            rows = [[column.get(face, 0) for face in lower] for column in columns]
                            last = [dict(chain).get(face, 0) for face in lower]
                            expected = rank(rows, prime) == rank(rows + [last], prime)
                            self.assertEqual(self.check_both(facets, chain, prime), expected)

    def cycles(self, size, prime, factor):
        """Sums of two boundaries of sets of four vertices, the second one taken many times."""
        faces = list(combinations(range(4), size + 1))
        for a in faces:
            yield boundary(((a, factor),), prime)
            for b in faces:
                if a < b:
                    yield boundary(((a, 1), (b, factor)), prime)

    def test_twisted_shapes(self):
        # Three vertices that are no face of the plane go around it an odd number of times.
        for face in combinations(range(6), 3):
            for prime in PRIMES[1:]:
                ring = boundary(((face, 1),), prime)
                self.assertEqual(self.check_both(PLANE, ring, prime), prime != 2 or face in PLANE)

    def test_a_ring_of_the_twisted_shapes(self):
        """The ring a bounds just if its order, which is the twist, can be divided by."""
        for last, times, order in (((0, 1, 2), 1, 3), ((2, 1, 0), 1, 5), ((2, 1, 0), 2, 9), ((0, 1, 2), 2, 7)):
            for prime in PRIMES[1:]:
                ring = boundary((((0, 1, 2), 1),), prime)
                expected = order % prime != 0
                self.assertEqual(self.check_both(rings(last, times), ring, prime), expected, (order, prime))

    def test_some_complexes(self):
        for facets in some_complexes():
            for face in combinations(range(6), 3):
                ring = boundary(((face, 1),), 5)
                if all(part in faces_under(facets) for part, _ in ring):
                    self.check_both(facets, ring, 5)


class CycleErrorTests(unittest.TestCase):

    def test_no_cycles(self):
        facets = ((0, 1, 2), (1, 3), (4,))
        wrong = [
            # Not closed.
            ((((0,), 1),), 2), ((((0,), 1), ((1,), 1)), 3), ((((0,), 1), ((1,), 1)), 7), ((((0, 1), 1),), 2),
            ((((0, 1), 1), ((0, 2), 1), ((1, 2), 1)), 3), ((((0, 1, 2), 1),), 5), ((((0, 1), 1), ((1, 3), 1)), 2),
            # Closed, with a face that the complex does not have.
            ((((0, 1), 1), ((0, 3), 1), ((1, 3), 1)), 2), ((((0,), 1), ((5,), 1)), 2), ((((8,), 1), ((9,), 4)), 5),
            ((((1, 3), 1), ((1, 4), 1), ((3, 4), 1)), 2),
            # Both.
            ((((0, 3), 1),), 2), ((((0, 1, 3), 2),), 3), ((((0, 1, 2, 3), 1),), 2), ((((5,), 1),), 2),
            (((tuple(range(12)), 1),), 7),
        ]
        for chain, prime in wrong:
            for call in (filling, counter):
                with self.subTest(chain=chain, prime=prime, call=call.__name__):
                    error_raised(self, NotCycle, {}, call, facets, chain, prime)

    def test_faces_that_are_not_there_by_a_vertex(self):
        sphere = boundary((((0, 1, 2, 3), 1),), 3)
        for call in (filling, counter):
            error_raised(self, NotCycle, {}, call, tuple(combinations(range(4), 3))[:3], sphere, 3)
            error_raised(self, NotCycle, {}, call, ((0, 1),), sphere, 3)
            error_raised(self, NotCycle, {}, call, ((),), (((0,), 1), ((1,), 2)), 3)
            error_raised(self, NotCycle, {}, call, (), (((0,), 1), ((1,), 2)), 3)
            error_raised(self, NotCycle, {}, call, (), (((), 1),), 3)

    def test_too_many_faces(self):
        ring = boundary((((0, 1, 2), 1),), 2)
        for facets in (with_faces(301), (tuple(range(12)),)):
            for chain in ((), ring, (((0, 1), 1),), (((0, 12), 1),)):
                for call in (filling, counter):
                    error_raised(self, TooMany, {"limit": 300}, call, facets, chain, 2)
        at_bound = with_faces(300)
        self.assertEqual(boundary(filling(at_bound, ring, 2), 2), ring)
        self.assertIsNone(counter(at_bound, ring, 2))
        error_raised(self, NotCycle, {}, filling, at_bound, ring[:1], 2)
        error_raised(self, NotCycle, {}, counter, at_bound, ring[:1], 2)


if __name__ == "__main__":
    unittest.main()
