"""Quotient listings and shellings: [27] and [28]."""

import unittest
from itertools import combinations, permutations
from random import Random

from jointneeds.complexes import dual_complex, ideal_of_complex
from jointneeds.duals import dual_of
from jointneeds.errors import NotListing, TooMany
from jointneeds.listings import needs_by_quotients, quotient_breach, quotient_listing, shelling, shelling_breach
from jointneeds.needs import common_multiples, needs_by_cuts

from tests.boxes import (
    CORNER, PLANE, all_complexes, all_ideals, error_raised, greatest, ideal, needs_of_steps, of_degree, placed, plus,
    squarefree, stair, subsets, twice, under, variable,
)

TRIANGLE = (3, ((0, 1, 1), (1, 0, 1), (1, 1, 0)))
APART = (4, ((0, 0, 1, 1), (1, 1, 0, 0)))

# Ideals, listings, and the least place where one fails.
QUOTIENTS = [
    ((1, ()), (), None),
    ((12, ()), (), None),
    ((1, ((0,),)), (0,), None),
    ((12, ((0,) * 12,)), (0,), None),
    ((3, ((0, 60, 7),)), (0,), None),
    ((2, ((0, 1), (1, 0))), (0, 1), None),
    ((2, ((0, 1), (1, 0))), (1, 0), None),
    # The degrees are 3, 2, 2.
    (CORNER, (1, 2, 0), None),
    (CORNER, (2, 1, 0), None),
    (CORNER, (0, 1, 2), 1),
    (CORNER, (0, 2, 1), 1),
    (CORNER, (1, 0, 2), 2),
    (CORNER, (2, 0, 1), 1),
    (TRIANGLE, (2, 0, 1), None),
    (APART, (0, 1), 1),
    (APART, (1, 0), 1),
    # Three steps of degree 2: the outer ones have no step in common.
    ((2, stair(2)), (0, 1, 2), None),
    ((2, stair(2)), (1, 0, 2), None),
    ((2, stair(2)), (0, 2, 1), 1),
    ((2, stair(2)), (2, 0, 1), 1),
    ((2, stair(5)), (2, 3, 1, 0, 5, 4), 4),
    ((2, stair(59)), tuple(range(60)), None),
    ((2, stair(59)), tuple(range(59, -1, -1)), None),
    ((2, stair(59)), tuple(range(58)) + (59, 58), 58),
    # A quotient with a variable and a square that the variable does not divide.
    ((3, ((0, 2, 1), (1, 0, 2), (1, 1, 1))), (0, 2, 1), None),
    ((3, ((0, 2, 1), (1, 0, 2), (1, 1, 1))), (0, 1, 2), 1),
    ((3, ((0, 2, 1), (1, 1, 1), (2, 0, 1))), (0, 1, 2), None),
    ((3, ((0, 2, 1), (1, 1, 1), (2, 0, 1))), (0, 2, 1), 1),
    ((2, ((0, 5), (1, 2), (2, 1), (4, 0))), (1, 2, 3, 0), None),
    ((2, ((0, 4), (2, 2), (3, 1))), (1, 2, 0), 2),
    ((2, ((0, 3), (1, 2), (4, 0))), (0, 1, 2), 2),
    ((2, ((0, 3), (1, 2), (3, 1))), (0, 1, 2), None),
    # A degree that falls where all quotients are those of variables.
    ((2, ((0, 3), (1, 1))), (0, 1), 1),
    ((2, ((0, 3), (1, 1))), (1, 0), None),
]

# Complexes, listings of their facets, and the least place where one fails.
SHELLINGS = [
    ((), (), None),
    (((),), (0,), None),
    ((tuple(range(12)),), (0,), None),
    (((0,), (5,), (7,)), (2, 0, 1), None),
    (((0, 1), (1, 2), (2, 3)), (0, 1, 2), None),
    (((0, 1), (1, 2), (2, 3)), (1, 0, 2), None),
    (((0, 1), (1, 2), (2, 3)), (0, 2, 1), 1),
    (((0, 1), (1, 2), (2, 3)), (2, 0, 1), 1),
    (((0, 1), (2, 3)), (0, 1), 1),
    (((0, 1), (2, 3)), (1, 0), 1),
    (((0, 1), (0, 2), (1, 2)), (2, 1, 0), None),
    (((0, 1, 2), (2, 3, 4)), (0, 1), 1),
    (((0, 1, 2), (1, 2, 3), (2, 3, 4)), (0, 1, 2), None),
    (((0, 1, 2), (1, 2, 3), (2, 3, 4)), (0, 2, 1), 1),
    # Facets of two sizes: the smaller ones follow, and may not stand ahead.
    (((0, 1, 2), (2, 3)), (0, 1), None),
    (((0, 1, 2), (2, 3)), (1, 0), 1),
    (((0, 1, 2), (3,)), (0, 1), None),
    (((0, 1, 2), (3,)), (1, 0), 1),
    (((0, 1), (2,), (3,)), (0, 2, 1), None),
    (((0, 1), (2,), (3,)), (1, 2, 0), 2),
    # An octahedron: going around one half, and then from the opposite side.
    (((0, 2, 4), (0, 2, 5), (0, 3, 4), (0, 3, 5), (1, 2, 4), (1, 2, 5), (1, 3, 4), (1, 3, 5)),
     (0, 1, 2, 3, 4, 5, 6, 7), None),
    (((0, 2, 4), (0, 2, 5), (0, 3, 4), (0, 3, 5), (1, 2, 4), (1, 2, 5), (1, 3, 4), (1, 3, 5)),
     (0, 1, 2, 7, 3, 4, 5, 6), 3),
    (((0, 2, 4), (0, 2, 5), (0, 3, 4), (0, 3, 5), (1, 2, 4), (1, 2, 5), (1, 3, 4), (1, 3, 5)),
     (0, 1, 4, 2, 7, 3, 5, 6), 4),
]


def quotient_fails(value, listing):
    """The least place where a listing is no quotient listing, asked of monomials of a box."""
    n, generators = value
    listed = [generators[k] for k in listing]
    for j, g in enumerate(listed):
        if j and sum(g) < sum(listed[j - 1]):
            return j
        single = [k for k in range(n) if multiple_of_any(listed[:j], plus(g, variable(n, k)))]
        for other in listed[:j]:
            # What takes g into the multiples of the other one has to have one of these variables.
            quotient = tuple(max(x - y, 0) for x, y in zip(other, g))
            if not any(quotient[k] for k in single):
                return j
    return None


def multiple_of_any(monomials, m):
    """Whether one of the monomials divides another one."""
    return any(under(other, m) for other in monomials)


def shelling_fails(facets, listing):
    """The least place where a listing is no shelling, by the words of [28]."""
    listed = [set(facets[k]) for k in listing]
    for j in range(len(listed)):
        for i in range(j):
            if not any(
                listed[j] - listed[k] == {v} for v in listed[j] - listed[i] for k in range(j)
            ):
                return j
    return None


def least(many, fails, thing):
    """The least listing of so many numbers that does not fail, or None."""
    return next((listing for listing in permutations(range(many)) if fails(thing, listing) is None), None)


def some_ideals():
    """Ideals with at most five generators."""
    random = Random(27)
    found = all_ideals(2, 2) + all_ideals(3, 1) + [value for value in all_ideals(3, 2)[::200] if len(value[1]) < 6]
    for _ in range(60):
        n = random.randint(2, 4)
        words = of_degree(n, 2) + of_degree(n, 3)
        monomials = set(random.sample(words, random.randint(2, 5)))
        found.append(ideal(n, [m for m in monomials if not any(o != m and under(o, m) for o in monomials)]))
    return found


def some_complexes():
    """Complexes with at most five facets."""
    random = Random(28)
    found = [facets for v in range(5) for facets in all_complexes(v) if len(facets) < 5]
    for _ in range(60):
        faces = [face for face in subsets(range(6)) if 2 <= len(face) <= 4]
        found.append(greatest(random.sample(faces, random.randint(2, 5))))
    return found


class QuotientTests(unittest.TestCase):

    def test_by_hand(self):
        for value, listing, place in QUOTIENTS:
            with self.subTest(value=value, listing=listing):
                self.assertEqual(quotient_fails(value, listing), place)
                self.assertEqual(twice(self, quotient_breach, value, listing), place)

    def test_all_listings_of_some_ideals(self):
        found = {}
        for value in some_ideals():
            for listing in permutations(range(len(value[1]))):
                place = quotient_breach(value, listing)
                self.assertEqual(place, quotient_fails(value, listing))
                found[place] = True
        self.assertGreater(len(found), 4)

    def test_the_least_one(self):
        nothing = 0
        for value in some_ideals():
            expected = least(len(value[1]), quotient_fails, value)
            self.assertEqual(twice(self, quotient_listing, value), expected)
            nothing += expected is None
        self.assertGreater(nothing, 20)

    def test_the_least_one_by_hand(self):
        self.assertEqual(quotient_listing((1, ())), ())
        self.assertEqual(quotient_listing((12, ((0,) * 12,))), (0,))
        self.assertEqual(quotient_listing(CORNER), (1, 2, 0))
        self.assertEqual(quotient_listing(TRIANGLE), (0, 1, 2))
        self.assertIsNone(quotient_listing(APART))
        self.assertIsNone(quotient_listing((2, ((0, 4), (2, 2), (3, 1)))))
        self.assertEqual(quotient_listing((2, ((0, 6), (1, 4), (2, 2), (3, 1), (4, 0)))), (2, 3, 4, 1, 0))
        self.assertEqual(quotient_listing((2, ((0, 5), (1, 4), (2, 2), (3, 1)))), (2, 3, 1, 0))

    def test_seven_generators_and_eight(self):
        seven = (7, tuple(variable(7, k) for k in range(6, -1, -1)))
        self.assertEqual(quotient_listing(seven), tuple(range(7)))
        self.assertEqual(quotient_listing((2, stair(6))), tuple(range(7)))
        self.assertEqual(quotient_listing(ideal(12, placed(12, (3, 11), stair(6)))), tuple(range(7)))
        # Pairs that are all apart, so that there is none, whichever comes first.
        apart = squarefree(12, *[(2 * k, 2 * k + 1) for k in range(6)])
        self.assertIsNone(quotient_listing(apart))
        ring = squarefree(7, *[(k, (k + 1) % 7) for k in range(7)])
        self.assertIsNone(quotient_listing(ring))
        for value in ((8, tuple(variable(8, k) for k in range(7, -1, -1))), (2, stair(7)), (2, stair(59)),
                      ideal(12, placed(12, (0, 1), stair(7)))):
            error_raised(self, TooMany, {"limit": 7}, quotient_listing, value)


class QuotientNeedsTests(unittest.TestCase):

    def test_by_hand(self):
        expected = ((0, (0, 0), 1), (1, (0, 3), 1), (1, (1, 1), 1), (1, (2, 0), 1), (2, (1, 3), 1), (2, (2, 1), 1))
        self.assertEqual(twice(self, needs_by_quotients, CORNER, (1, 2, 0)), expected)
        self.assertEqual(needs_by_quotients(CORNER, (2, 1, 0)), expected)
        # At (1, 1, 1) there are two needs, from two generators.
        expected = ((0, (0, 0, 0), 1), (1, (0, 1, 1), 1), (1, (1, 0, 1), 1), (1, (1, 1, 0), 1), (2, (1, 1, 1), 2))
        for listing in permutations(range(3)):
            self.assertEqual(needs_by_quotients(TRIANGLE, listing), expected)

    def test_zero_ideal_and_one_generator(self):
        for n in (1, 12):
            self.assertEqual(needs_by_quotients((n, ()), ()), ((0, (0,) * n, 1),))
            self.assertEqual(needs_by_quotients((n, ((60,) * n,)), (0,)), ((0, (0,) * n, 1), (1, (60,) * n, 1)))

    def test_the_list_of_needs_over_every_prime(self):
        compared = 0
        for value in some_ideals():
            if value[1] == ((0,) * value[0],):
                continue
            for listing in permutations(range(len(value[1]))):
                if quotient_fails(value, listing) is None:
                    found = needs_by_quotients(value, listing)
                    compared += 1
                    for prime in (0, 2, 3):
                        self.assertEqual(found, needs_by_cuts(value, prime))
                    break
        self.assertGreater(compared, 40)

    def test_all_squarefree_of_a_degree(self):
        value = squarefree(5, *combinations(range(5), 3))
        listing = tuple(range(9, -1, -1))
        self.assertIsNone(quotient_fails(value, listing))
        self.assertEqual(needs_by_quotients(value, listing), needs_by_cuts(value, 2))

    def test_more_than_a_small_ideal(self):
        """The variables of twelve, and 60 generators in two variables."""
        twelve = (12, tuple(variable(12, k) for k in range(11, -1, -1)))
        found = needs_by_quotients(twelve, tuple(range(12)))
        expected = tuple(sorted((len(lot), tuple(int(k in lot) for k in range(12)), 1) for lot in subsets(range(12))))
        self.assertEqual(found, expected)
        steps = (2, stair(59))
        found = needs_by_quotients(steps, tuple(range(59, -1, -1)))
        self.assertEqual(found, needs_of_steps(steps, lambda g: (0,) if g[0] < 59 else ()))

    def test_no_listing(self):
        for value, listing, place in QUOTIENTS:
            if place is not None:
                error_raised(self, NotListing, {"place": place}, needs_by_quotients, value, listing)


class ShellingTests(unittest.TestCase):

    def test_by_hand(self):
        for facets, listing, place in SHELLINGS:
            with self.subTest(facets=facets, listing=listing):
                self.assertEqual(shelling_fails(facets, listing), place)
                self.assertEqual(twice(self, shelling_breach, facets, listing), place)

    def test_all_listings_of_some_complexes(self):
        found = {}
        for facets in some_complexes():
            for listing in permutations(range(len(facets))):
                place = shelling_breach(facets, listing)
                self.assertEqual(place, shelling_fails(facets, listing))
                found[place] = True
        self.assertGreater(len(found), 4)

    def test_the_least_one(self):
        nothing = 0
        for facets in some_complexes():
            expected = least(len(facets), shelling_fails, facets)
            self.assertEqual(twice(self, shelling, facets), expected)
            nothing += expected is None
        self.assertGreater(nothing, 20)

    def test_the_least_one_by_hand(self):
        self.assertEqual(shelling(()), ())
        self.assertEqual(shelling(((),)), (0,))
        self.assertEqual(shelling((tuple(range(12)),)), (0,))
        self.assertIsNone(shelling(((0, 1), (2, 3))))
        self.assertEqual(shelling(((0, 1), (0, 2), (1, 3), (2, 3))), (0, 1, 2, 3))
        self.assertEqual(shelling(((0, 3), (1, 2), (2, 3))), (0, 2, 1))
        self.assertEqual(shelling(((0, 1), (1, 2), (2, 3, 4))), (2, 1, 0))
        self.assertIsNone(shelling(((0, 1), (2, 3, 4))))
        self.assertEqual(shelling(((0,), (1, 2), (2, 3, 4))), (2, 0, 1))

    def test_seven_facets_and_eight(self):
        seven = tuple((k,) for k in range(7))
        self.assertEqual(shelling(seven), tuple(range(7)))
        self.assertEqual(shelling(tuple(combinations(range(7), 6))), tuple(range(7)))
        self.assertIsNone(shelling(tuple((2 * k, 2 * k + 1) for k in range(6))))
        for facets in (tuple((k,) for k in range(8)), PLANE, tuple(combinations(range(8), 7)),
                       tuple(combinations(range(12), 6))):
            error_raised(self, TooMany, {"limit": 7}, shelling, facets)
        # There is no limit where a listing is judged.
        self.assertIsNone(shelling_breach(tuple((k,) for k in range(12)), tuple(range(12))))
        self.assertIsNotNone(shelling_breach(PLANE, tuple(range(10))))


class DualTests(unittest.TestCase):

    def test_shellings_and_quotient_listings(self):
        """For facets of one size: the generators of the dual ideal are their complements."""
        random = Random(2728)
        both = {}
        for _ in range(60):
            v = random.randint(3, 6)
            size = random.randint(1, v - 1)
            lots = list(combinations(range(v), size))
            facets = tuple(sorted(random.sample(lots, min(len(lots), random.randint(1, 4)))))
            dual = dual_of(ideal_of_complex(v, facets), (1,) * v) if fits(v, facets) else None
            generators = [tuple(int(k not in facet) for k in range(v)) for facet in facets]
            value = ideal(v, generators)
            if dual is not None:
                self.assertEqual(dual, value)
            for listing in permutations(range(len(facets))):
                numbers = tuple(value[1].index(generators[k]) for k in listing)
                place = shelling_breach(facets, listing)
                self.assertEqual(place, quotient_breach(value, numbers))
                both[place is None] = True
        self.assertEqual(len(both), 2)


def fits(v, facets):
    """Whether the ideal of a complex is small."""
    return len(dual_complex(v, facets)) <= 10


class SequenceTests(unittest.TestCase):

    def test_one_is_least_among_many(self):
        """The first listing that works begins with a later number, and goes on with the least ones."""
        value = (3, ((0, 0, 3), (0, 1, 1), (1, 0, 1), (1, 1, 0)))
        self.assertEqual(quotient_listing(value), least(4, quotient_fails, value))
        self.assertEqual(quotient_listing(value), (1, 2, 3, 0))
        self.assertEqual(len(common_multiples(value)), 9)


if __name__ == "__main__":
    unittest.main()
