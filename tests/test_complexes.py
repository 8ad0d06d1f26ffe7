"""Complexes by their facets, and what is made of them: [11] and [13]."""

import unittest
from itertools import combinations, product

from jointneeds.complexes import (
    check_complex, complex_of_ideal, dual_complex, faces_of, facets_of, ideal_of_complex, link, restricted, without,
)
from jointneeds.duals import dual_of
from jointneeds.errors import NotComplex, NotSquarefree, TooMany
from jointneeds.ideals import breach

from tests.boxes import (
    LikeNothing, all_complexes, all_ideals, error_raised, faces_under, greatest, lies, squarefree, subsets, twice,
    variable,
)

# All complexes with few vertices, each with its number of vertices.
SMALL = [(v, facets) for v in range(5) for facets in all_complexes(v)]

HALF = tuple(combinations(range(12), 6))

COMPLEXES = [
    (0, ()),
    (0, ((),)),
    (12, ()),
    (12, ((),)),
    (1, ((0,),)),
    (3, ((0, 1), (2,))),
    (3, ((0, 1), (0, 2), (1, 2))),
    (4, ((0, 1, 2), (0, 3), (1, 3))),
    (12, (tuple(range(12)),)),
    (12, ((11,),)),
    (12, ((2, 10, 11), (9, 10))),
    (12, HALF),
]

NO_NUMBERS = [-1, 13, 14, -12, True, False, None, "3", 3.0, (3,), [3], {}, LikeNothing()]

NO_FACETS = [
    None, True, 0, 3, "", "012", b"", [], {}, set(), range(3), LikeNothing(),
    [()], [(0, 1)], [(0,), (1,)],
    (0,), (0, 1), (True,), (None,), ("",), ("01",), ("0",), (b"\x00",), (LikeNothing(),), ((), 0), (0, ()),
    ([],), ([0],), ([0, 1], [1, 2]), ((0,), [1]), ({},), ({0},), (range(1),), (frozenset((0,)),),
    ((True,),), ((False,),), ((0, True),), ((False, 1),), ((True, 2),), ((0,), (True,)), ((0.0,),), ((1.0,),),
    (("0",),), ((None,),), (((),),), (((0,),),), (([0],),), ((0, "1"),), ((0, None),), (((0, 1),),),
    ((-1,),), ((-1, 0),), ((3,),), ((0, 3),), ((0,), (3,)), ((0, 1, 2, 3),), ((12,),), ((2, -1),),
    ((1, 0),), ((0, 0),), ((0, 2, 1),), ((0, 1, 1),), ((2, 1, 0),), ((0, 1), (2, 1)),
    ((1,), (0,)), ((0,), (2,), (1,)), ((0, 2), (0, 1)), ((1, 2), (0,)), ((0, 1), (0,)), ((0, 2), (0, 1, 2)),
    ((0,), (0,)), ((), ()), ((0, 1), (0, 1)), ((0,), (1,), (1,)),
    ((), (0,)), ((0,), (0, 1)), ((0,), (0, 1, 2)), ((0, 1), (1,)), ((0, 1), (1, 2), (2,)), ((0, 1, 2), (0, 2)),
    ((0, 1, 2), (1,)), ((0, 1, 2), (1, 2)), ((), (0, 1, 2)),
]


class CheckTests(unittest.TestCase):

    def test_complexes(self):
        for v, facets in COMPLEXES + SMALL:
            with self.subTest(v=v, many=len(facets)):
                self.assertIs(check_complex(v, facets), facets)

    def test_all_values_of_few_vertices(self):
        """Of all short tuples of sets just those without one in another are facets."""
        faces = subsets(range(3))
        for many in range(4):
            for facets in product(faces, repeat=many):
                if facets == greatest(facets) and len(set(facets)) == many:
                    self.assertIs(check_complex(3, facets), facets)
                else:
                    error_raised(self, NotComplex, {}, check_complex, 3, facets)

    def test_all_short_tuples_of_vertices(self):
        for many in range(4):
            for face in product(range(-1, 4), repeat=many):
                if face == tuple(sorted(set(face))) and all(0 <= vertex < 3 for vertex in face):
                    self.assertEqual(check_complex(3, (face,)), (face,))
                else:
                    error_raised(self, NotComplex, {}, check_complex, 3, (face,))

    def test_no_number_of_vertices(self):
        for v in NO_NUMBERS:
            for facets in ((), ((),), ((0,),), [], None):
                with self.subTest(v=v, facets=facets):
                    error_raised(self, NotComplex, {}, check_complex, v, facets)

    def test_no_facets(self):
        for facets in NO_FACETS:
            with self.subTest(facets):
                error_raised(self, NotComplex, {}, check_complex, 3, facets)

    def test_vertices_at_the_bound(self):
        for v in range(13):
            if v > 0:
                self.assertEqual(check_complex(v, ((v - 1,),)), ((v - 1,),))
            error_raised(self, NotComplex, {}, check_complex, v, ((v,),))
            error_raised(self, NotComplex, {}, check_complex, v, ((-1,),))

    def test_one_within_another_one_far_off(self):
        inner = HALF[:500] + ((5, 6, 7, 8),)
        error_raised(self, NotComplex, {}, check_complex, 12, tuple(sorted(inner + HALF[500:])))
        error_raised(self, NotComplex, {}, check_complex, 12, HALF[::-1])
        error_raised(self, NotComplex, {}, check_complex, 11, HALF)

    def test_a_list_is_not_changed(self):
        facets = [(1,), (0,)]
        error_raised(self, NotComplex, {}, check_complex, 2, facets)
        self.assertEqual(facets, [(1,), (0,)])


class FacetTests(unittest.TestCase):

    def test_by_hand(self):
        self.assertEqual(twice(self, facets_of, 3, [(0,), (1, 2), (2,), (0,)]), ((0,), (1, 2)))
        self.assertEqual(facets_of(3, [(1, 2), (0, 1), (0, 1, 2)]), ((0, 1, 2),))
        self.assertEqual(facets_of(4, ((3,), (0, 1), (0, 2), (1,))), ((0, 1), (0, 2), (3,)))
        self.assertEqual(facets_of(12, [(11,), (2, 10), (0,), (2,)]), ((0,), (2, 10), (11,)))

    def test_without_faces_and_with_the_empty_one(self):
        for v in (0, 1, 12):
            self.assertEqual(facets_of(v, []), ())
            self.assertEqual(facets_of(v, ()), ())
            self.assertEqual(facets_of(v, [()]), ((),))
            self.assertEqual(facets_of(v, ((), ())), ((),))
        self.assertEqual(facets_of(1, [(), (0,)]), ((0,),))

    def test_all_lists_of_three_sets(self):
        faces = subsets(range(3))
        for chosen in product(faces, repeat=3):
            self.assertEqual(facets_of(3, list(chosen)), greatest(set(chosen)))
            self.assertEqual(facets_of(4, chosen), greatest(set(chosen)))

    def test_all_complexes(self):
        for v, facets in SMALL:
            self.assertEqual(facets_of(v, facets), facets)
            self.assertEqual(facets_of(v, sorted(faces_under(facets), reverse=True)), facets)

    def test_twelve_vertices(self):
        self.assertEqual(facets_of(12, subsets(range(12))), (tuple(range(12)),))
        self.assertEqual(facets_of(12, [face for face in subsets(range(12)) if len(face) <= 6]), HALF)

    def test_a_list_is_not_changed(self):
        faces = [(2,), (0, 1), (0,), (2,)]
        facets_of(3, faces)
        self.assertEqual(faces, [(2,), (0, 1), (0,), (2,)])

    def test_faces_by_hand(self):
        facets = ((0, 1, 2), (1, 3))
        self.assertEqual(twice(self, faces_of, facets, 0), ((),))
        self.assertEqual(twice(self, faces_of, facets, 1), ((0,), (1,), (2,), (3,)))
        self.assertEqual(twice(self, faces_of, facets, 2), ((0, 1), (0, 2), (1, 2), (1, 3)))
        self.assertEqual(twice(self, faces_of, facets, 3), ((0, 1, 2),))
        self.assertEqual(twice(self, faces_of, facets, 4), ())
        for count in range(4):
            self.assertEqual(faces_of((), count), ())
            self.assertEqual(faces_of(((),), count), ((),) if count == 0 else ())

    def test_faces_of_all_complexes(self):
        for v, facets in SMALL:
            for count in range(v + 2):
                expected = sorted(face for face in faces_under(facets) if len(face) == count)
                self.assertEqual(faces_of(facets, count), tuple(expected))

    def test_faces_of_twelve_vertices(self):
        for count in range(14):
            self.assertEqual(faces_of((tuple(range(12)),), count), tuple(combinations(range(12), count)))
        self.assertEqual(faces_of(HALF, 5), tuple(combinations(range(12), 5)))


class PartTests(unittest.TestCase):

    def test_link_by_hand(self):
        facets = ((0, 1, 2), (0, 3), (1, 3))
        self.assertEqual(twice(self, link, facets, ()), facets)
        self.assertEqual(twice(self, link, facets, (0,)), ((1, 2), (3,)))
        self.assertEqual(twice(self, link, facets, (3,)), ((0,), (1,)))
        self.assertEqual(link(facets, (0, 1)), ((2,),))
        self.assertEqual(link(facets, (1, 3)), ((),))
        self.assertEqual(link(facets, (0, 1, 2)), ((),))
        self.assertEqual(link(((0, 1, 3), (1, 2)), (1,)), ((0, 3), (2,)))
        self.assertEqual(link(((0, 3), (1, 2, 3)), (3,)), ((0,), (1, 2)))
        self.assertEqual(link(((0, 1, 5), (0, 2), (1, 2, 3)), (2,)), ((0,), (1, 3)))
        self.assertEqual(link(((),), ()), ((),))

    def test_without_by_hand(self):
        facets = ((0, 1, 2), (0, 3), (1, 3))
        self.assertEqual(twice(self, without, facets, 0), ((1, 2), (1, 3)))
        self.assertEqual(twice(self, without, facets, 1), ((0, 2), (0, 3)))
        self.assertEqual(twice(self, without, facets, 3), ((0, 1, 2),))
        self.assertEqual(without(facets, 4), facets)
        self.assertEqual(without(facets, 11), facets)
        self.assertEqual(without(((0,),), 0), ((),))
        self.assertEqual(without(((),), 0), ((),))
        self.assertEqual(without((), 0), ())

    def test_restricted_by_hand(self):
        facets = ((0, 1, 2), (0, 3), (1, 3))
        self.assertEqual(twice(self, restricted, facets, [3, 1, 0]), ((0, 1), (0, 3), (1, 3)))
        self.assertEqual(twice(self, restricted, facets, (2, 3)), ((2,), (3,)))
        self.assertEqual(restricted(facets, [2, 2, 2]), ((2,),))
        self.assertEqual(restricted(facets, []), ((),))
        self.assertEqual(restricted(facets, (7, 8)), ((),))
        self.assertEqual(restricted(facets, [0, 1, 2, 3, 4]), facets)
        self.assertEqual(restricted(((),), [0]), ((),))
        self.assertEqual(restricted((), [0]), ())
        self.assertEqual(restricted((), []), ())

    def test_all_complexes(self):
        for v, facets in SMALL:
            faces = faces_under(facets)
            for face in faces:
                around = {f for f in faces if not set(f) & set(face) and tuple(sorted(f + face)) in faces}
                self.assertEqual(link(facets, face), greatest(around))
            for vertex in range(v):
                self.assertEqual(without(facets, vertex), greatest({f for f in faces if vertex not in f}))
            for vertices in subsets(range(v)):
                within = {f for f in faces if set(f) <= set(vertices)}
                self.assertEqual(restricted(facets, vertices), greatest(within))
                self.assertEqual(restricted(facets, list(vertices[::-1])), greatest(within))

    def test_twelve_vertices(self):
        self.assertEqual(link(HALF, (0, 11)), tuple(combinations(range(1, 11), 4)))
        self.assertEqual(without(HALF, 3), tuple(combinations((0, 1, 2, 4, 5, 6, 7, 8, 9, 10, 11), 6)))
        self.assertEqual(restricted(HALF, tuple(range(5, 12))), tuple(combinations(range(5, 12), 6)))
        self.assertEqual(restricted(HALF, (1, 2, 3)), ((1, 2, 3),))

    def test_a_list_is_not_changed(self):
        vertices = [3, 1, 0, 3]
        restricted(((0, 1, 2), (0, 3)), vertices)
        self.assertEqual(vertices, [3, 1, 0, 3])


class DualTests(unittest.TestCase):

    def test_by_hand(self):
        self.assertEqual(twice(self, dual_complex, 3, ((0, 1), (2,))), ((0,), (1,)))
        self.assertEqual(dual_complex(4, ((0, 1), (1, 2), (2, 3))), ((0, 2), (1, 2), (1, 3)))
        self.assertEqual(dual_complex(3, ((0, 1), (0, 2), (1, 2))), ((),))
        self.assertEqual(dual_complex(3, ((),)), ((0, 1), (0, 2), (1, 2)))
        self.assertEqual(dual_complex(0, ()), ((),))
        self.assertEqual(dual_complex(0, ((),)), ())
        for v in (1, 2, 12):
            self.assertEqual(dual_complex(v, ()), (tuple(range(v)),))
            self.assertEqual(dual_complex(v, (tuple(range(v)),)), ())

    def test_all_complexes(self):
        for v, facets in SMALL:
            faces = faces_under(facets)
            dual = {f for f in subsets(range(v)) if tuple(k for k in range(v) if k not in f) not in faces}
            self.assertEqual(twice(self, dual_complex, v, facets), greatest(dual))
            self.assertEqual(dual_complex(v, dual_complex(v, facets)), facets)

    def test_twelve_vertices(self):
        self.assertEqual(dual_complex(12, HALF), tuple(combinations(range(12), 5)))
        self.assertEqual(dual_complex(12, tuple(combinations(range(12), 5))), HALF)


class IdealTests(unittest.TestCase):

    def test_by_hand(self):
        value = squarefree(3, (0, 2), (1, 2))
        self.assertEqual(twice(self, ideal_of_complex, 3, ((0, 1), (2,))), value)
        self.assertEqual(twice(self, complex_of_ideal, value), ((0, 1), (2,)))
        self.assertEqual(ideal_of_complex(3, ((0, 1), (0, 2), (1, 2))), (3, ((1, 1, 1),)))
        self.assertEqual(ideal_of_complex(3, ((1,),)), (3, ((0, 0, 1), (1, 0, 0))))
        self.assertEqual(complex_of_ideal((3, ((0, 0, 1), (1, 0, 0)))), ((1,),))

    def test_the_ends(self):
        for n in (1, 2, 12):
            every = tuple(range(n))
            self.assertEqual(ideal_of_complex(n, ()), (n, ((0,) * n,)))
            self.assertEqual(complex_of_ideal((n, ((0,) * n,))), ())
            self.assertEqual(ideal_of_complex(n, ((),)), (n, tuple(variable(n, k) for k in range(n - 1, -1, -1))))
            self.assertEqual(complex_of_ideal((n, tuple(variable(n, k) for k in range(n - 1, -1, -1)))), ((),))
            self.assertEqual(ideal_of_complex(n, (every,)), (n, ()))
            self.assertEqual(complex_of_ideal((n, ())), (every,))

    def test_all_complexes(self):
        for v, facets in SMALL:
            if v == 0:
                continue
            faces = faces_under(facets)
            made = ideal_of_complex(v, facets)
            self.assertIsNone(breach(made))
            for face in subsets(range(v)):
                m = tuple(int(k in face) for k in range(v))
                self.assertEqual(lies(made[1], m), face not in faces, (facets, face))
            self.assertTrue(all(exponent <= 1 for generator in made[1] for exponent in generator))
            self.assertEqual(complex_of_ideal(made), facets)
            self.assertEqual(dual_of(made, (1,) * v), ideal_of_complex(v, dual_complex(v, facets)))

    def test_all_squarefree_ideals(self):
        for n in (1, 2, 3, 4):
            for value in all_ideals(n, 1):
                facets = complex_of_ideal(value)
                faces = {f for f in subsets(range(n)) if not lies(value[1], tuple(int(k in f) for k in range(n)))}
                self.assertEqual(facets, greatest(faces))
                self.assertEqual(ideal_of_complex(n, facets), value)

    def test_not_squarefree(self):
        for value in ((1, ((2,),)), (1, ((60,),)), (2, ((0, 2), (1, 1))), (2, ((0, 1), (2, 0))),
                      (3, ((0, 1, 2), (1, 1, 1))), (12, ((1,) * 11 + (2,),)), (12, ((2,) + (1,) * 11,))):
            error_raised(self, NotSquarefree, {}, complex_of_ideal, value)

    def test_each_small_ideal(self):
        for value in all_ideals(2, 2):
            if max((max(generator) for generator in value[1]), default=0) > 1:
                error_raised(self, NotSquarefree, {}, complex_of_ideal, value)
            else:
                complex_of_ideal(value)

    def test_sixty_and_more_generators(self):
        pairs = list(combinations(range(12), 2))
        # The sets of vertices with none of some pairs within them.
        sixty = complex_of_ideal(squarefree(12, *pairs[:60]))
        self.assertEqual(len(ideal_of_complex(12, sixty)[1]), 60)
        # One pair more is no face.
        rest = [face for face in faces_under(sixty) if not set(pairs[60]) <= set(face)]
        error_raised(self, TooMany, {"limit": 60}, ideal_of_complex, 12, greatest(rest))
        error_raised(self, TooMany, {"limit": 60}, ideal_of_complex, 12, HALF)
        error_raised(self, TooMany, {"limit": 60}, ideal_of_complex, 12, tuple((k,) for k in range(12)))
        self.assertEqual(len(ideal_of_complex(11, tuple((k,) for k in range(11)))[1]), 55)


if __name__ == "__main__":
    unittest.main()
