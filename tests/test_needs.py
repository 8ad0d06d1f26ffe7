"""Common multiples and the lists of needs, found in five ways: [15] and [16]."""

import unittest
from itertools import combinations
from math import comb
from random import Random

from jointneeds.complexes import ideal_of_complex
from jointneeds.errors import TooMany
from jointneeds.ideals import check_ideal, ideal_of
from jointneeds.needs import (
    common_multiples, needs_by_cuts, needs_by_duals, needs_by_lots, needs_by_multiples, needs_by_restrictions,
)

from tests.boxes import (
    FLAT, PLANE, all_ideals, error_raised, holes_by_ranks, ideal, lcm, placed, signs_of_lots, squarefree,
    stair, subsets, twice, under, variable,
)

PRIMES = (0, 2, 3, 5, 7)
WAYS = (needs_by_cuts, needs_by_duals, needs_by_lots, needs_by_multiples, needs_by_restrictions)

# The limits that the ways have besides those that all of them have.
LIMITS = {needs_by_lots: 8, needs_by_multiples: 16, needs_by_restrictions: 9}

# Ideals with so many common multiples.
SIXTEEN = (2, stair(4))
SEVENTEEN = (4, ((0, 0, 1, 1), (0, 1, 0, 1), (0, 2, 0, 0), (1, 1, 1, 0), (2, 0, 0, 1)))
MANY_8 = (8, ((0, 0, 0, 0, 0, 2, 1, 0), (0, 0, 0, 1, 0, 2, 0, 1), (0, 0, 0, 1, 1, 0, 2, 2), (0, 0, 0, 2, 0, 1, 2, 0),
              (0, 1, 0, 0, 2, 2, 0, 0), (0, 2, 0, 0, 1, 0, 0, 0), (0, 2, 1, 0, 0, 1, 0, 0), (1, 0, 0, 0, 0, 0, 0, 0)))
MANY_9 = (6, ((0, 0, 0, 1, 3, 0), (0, 0, 1, 1, 0, 0), (0, 0, 3, 0, 0, 0), (0, 3, 0, 0, 2, 2), (0, 3, 0, 1, 0, 0),
              (1, 0, 0, 1, 0, 3), (1, 3, 2, 0, 3, 0), (2, 0, 2, 0, 0, 0), (3, 0, 0, 0, 0, 0)))
MORE_8 = (8, ((0, 0, 0, 1, 2, 1, 0, 0), (0, 0, 1, 0, 1, 0, 0, 2), (0, 1, 2, 0, 0, 0, 1, 2), (0, 2, 0, 2, 1, 0, 0, 0),
              (0, 2, 1, 0, 0, 0, 1, 0), (1, 0, 0, 0, 0, 0, 2, 1), (1, 0, 1, 0, 0, 1, 0, 2), (2, 0, 0, 0, 1, 0, 0, 0)))
MORE_9 = (8, ((0, 0, 0, 0, 0, 0, 1, 1), (0, 0, 0, 0, 2, 3, 3, 0), (0, 0, 0, 2, 0, 2, 0, 0), (0, 0, 1, 1, 0, 3, 0, 0),
              (0, 2, 0, 3, 2, 1, 1, 0), (1, 0, 0, 0, 0, 0, 1, 0), (2, 0, 0, 0, 1, 3, 0, 1), (2, 0, 0, 2, 2, 0, 0, 0),
              (2, 1, 0, 0, 0, 0, 0, 0)))

SEVEN = tuple(variable(7, k) for k in range(6, -1, -1))
EIGHT = tuple(variable(8, k) for k in range(7, -1, -1))

# Ideals with their lists of needs, which are the same over every prime.
LISTS = [
    ((1, ()), [(0, (0,), 1)]),
    ((1, ((1,),)), [(0, (0,), 1), (1, (1,), 1)]),
    ((1, ((9,),)), [(0, (0,), 1), (1, (9,), 1)]),
    ((2, ((2, 1),)), [(0, (0, 0), 1), (1, (2, 1), 1)]),
    ((2, ((0, 3), (2, 0))), [(0, (0, 0), 1), (1, (0, 3), 1), (1, (2, 0), 1), (2, (2, 3), 1)]),
    ((2, ((0, 3), (1, 1), (2, 0))),
     [(0, (0, 0), 1), (1, (0, 3), 1), (1, (1, 1), 1), (1, (2, 0), 1), (2, (1, 3), 1), (2, (2, 1), 1)]),
    ((3, ((0, 1, 1), (1, 0, 1), (1, 1, 0))),
     [(0, (0, 0, 0), 1), (1, (0, 1, 1), 1), (1, (1, 0, 1), 1), (1, (1, 1, 0), 1), (2, (1, 1, 1), 2)]),
    ((3, ((0, 0, 1), (0, 1, 0), (1, 0, 0))),
     [(0, (0, 0, 0), 1), (1, (0, 0, 1), 1), (1, (0, 1, 0), 1), (1, (1, 0, 0), 1), (2, (0, 1, 1), 1),
      (2, (1, 0, 1), 1), (2, (1, 1, 0), 1), (3, (1, 1, 1), 1)]),
    # A ring of four edges: two of the relations of neighbours make the rest.
    ((4, ((0, 0, 1, 1), (0, 1, 1, 0), (1, 0, 0, 1), (1, 1, 0, 0))),
     [(0, (0, 0, 0, 0), 1), (1, (0, 0, 1, 1), 1), (1, (0, 1, 1, 0), 1), (1, (1, 0, 0, 1), 1), (1, (1, 1, 0, 0), 1),
      (2, (0, 1, 1, 1), 1), (2, (1, 0, 1, 1), 1), (2, (1, 1, 0, 1), 1), (2, (1, 1, 1, 0), 1), (3, (1, 1, 1, 1), 1)]),
    # Two edges apart.
    ((4, ((0, 0, 1, 1), (1, 1, 0, 0))),
     [(0, (0, 0, 0, 0), 1), (1, (0, 0, 1, 1), 1), (1, (1, 1, 0, 0), 1), (2, (1, 1, 1, 1), 1)]),
    ((3, ((0, 1, 2), (1, 0, 2), (2, 2, 0))),
     [(0, (0, 0, 0), 1), (1, (0, 1, 2), 1), (1, (1, 0, 2), 1), (1, (2, 2, 0), 1), (2, (1, 1, 2), 1),
      (2, (2, 2, 2), 1)]),
]


def needs_without_the_program(value, prime):
    """The list of needs, by sets of generators and the ranks of whole matrices."""
    n, generators = value
    if (0,) * n in generators:
        return ()
    lots = subsets(range(len(generators)))
    multiples = {lot: lcm([generators[k] for k in lot], n) for lot in lots}
    found = [(0, (0,) * n, 1)]
    for m in set(multiples.values()) - {(0,) * n}:
        faces = [lot for lot in lots if under(multiples[lot], m) and multiples[lot] != m]
        for k, number in enumerate(holes_by_ranks(faces, prime)):
            if number:
                found.append((k + 1, m, number))
    return tuple(sorted(found))


def some_ideals():
    """Ideals of many kinds; most have few generators."""
    random = Random(21)
    for n, top in ((1, 3), (2, 2), (3, 1)):
        yield from all_ideals(n, top)
    yield from all_ideals(3, 2)[::40]
    for k in range(60):
        n = random.randint(3, 6)
        top = random.randint(1, 3)
        monomials = [tuple(random.choice((0, random.randint(0, top))) for _ in range(n)) for _ in range(5)]
        yield ideal_of(n, monomials)


def pairs_of(value):
    """The number of pairs that the ideal is broken up into."""
    n, generators = value
    return sum(max([g[k] for g in generators] + [0]) for k in range(n))


def ways_for(value):
    """The ways that do not raise an error for an ideal."""
    fits = {needs_by_lots: len(value[1]), needs_by_multiples: len(common_multiples(value)),
            needs_by_restrictions: pairs_of(value)}
    return [way for way in WAYS if way not in LIMITS or fits[way] <= LIMITS[way]]


class MultipleTests(unittest.TestCase):

    def test_by_hand(self):
        value = (2, ((0, 3), (1, 1), (2, 0)))
        expected = ((0, 0), (0, 3), (1, 1), (1, 3), (2, 0), (2, 1), (2, 3))
        self.assertEqual(twice(self, common_multiples, value), expected)
        self.assertEqual(common_multiples((3, ((0, 1, 1), (1, 0, 1), (1, 1, 0)))),
                         ((0, 0, 0), (0, 1, 1), (1, 0, 1), (1, 1, 0), (1, 1, 1)))
        self.assertEqual(common_multiples((1, ((60,),))), ((0,), (60,)))

    def test_zero_ideal_and_whole_ring(self):
        for n in (1, 8):
            self.assertEqual(common_multiples((n, ())), ((0,) * n,))
            self.assertEqual(common_multiples((n, ((0,) * n,))), ((0,) * n,))

    def test_of_all_sets_of_generators(self):
        for value in list(some_ideals()) + [SEVENTEEN, MORE_8, MORE_9, (2, stair(9))]:
            n, generators = value
            lots = subsets(range(len(generators)))
            expected = sorted({lcm([generators[k] for k in lot], n) for lot in lots})
            self.assertEqual(common_multiples(value), tuple(expected))

    def test_small_and_no_other_limit(self):
        self.assertEqual(len(common_multiples((8, EIGHT))), 256)
        for value in ((9, ()), (9, ((0,) * 9,)), (12, ((1,) * 12,)), ideal(9, placed(9, (0, 1), stair(10)))):
            error_raised(self, TooMany, {"limit": 8}, common_multiples, value)
        error_raised(self, TooMany, {"limit": 10}, common_multiples, (2, stair(10)))


class ListTests(unittest.TestCase):

    def check_all(self, value, prime, expected):
        """Check the lists of all ways that an ideal lets."""
        for way in ways_for(value):
            with self.subTest(value=value, prime=prime, way=way.__name__):
                self.assertEqual(twice(self, way, value, prime), expected)

    def test_by_hand(self):
        for value, needs in LISTS:
            for prime in PRIMES:
                self.assertEqual(len(ways_for(value)), 5)
                self.check_all(value, prime, tuple(needs))

    def test_zero_ideal_and_whole_ring(self):
        for n in (1, 2, 8):
            for prime in PRIMES:
                self.check_all((n, ()), prime, ((0, (0,) * n, 1),))
                self.check_all((n, ((0,) * n,)), prime, ())

    def test_variables(self):
        """The needs of the first variables are their products."""
        for n, many in ((1, 1), (4, 4), (6, 4), (7, 7), (8, 7)):
            value = ideal(n, [variable(n, k) for k in range(many)])
            expected = [(len(lot), lcm([variable(n, k) for k in lot], n), 1) for lot in subsets(range(many))]
            for prime in (0, 3):
                self.check_all(value, prime, tuple(sorted(expected)))

    def test_stairs(self):
        for degree in range(1, 10):
            steps = stair(degree)
            expected = [(0, (0, 0), 1)] + [(1, g, 1) for g in steps]
            expected += [(2, lcm(pair, 2), 1) for pair in zip(steps, steps[1:])]
            for prime in (0, 2):
                self.check_all((2, steps), prime, tuple(sorted(expected)))

    def test_all_ways_and_none_of_them(self):
        for value in some_ideals():
            for prime in (0, 2, 7):
                self.check_all(value, prime, needs_without_the_program(value, prime))

    def test_signs_of_sets_of_generators(self):
        for value in list(some_ideals())[::3] + [SEVENTEEN, MANY_8, MANY_9, FLAT]:
            signs = {} if value[1] == ((0,) * value[0],) else signs_of_lots(value)
            for way in ways_for(value):
                sums = {}
                for i, m, number in way(value, 5):
                    self.assertGreater(number, 0)
                    sums[m] = sums.get(m, 0) + (-1) ** i * number
                self.assertEqual({m: number for m, number in sums.items() if number}, signs)

    def test_the_plane(self):
        value = ideal_of_complex(6, PLANE)
        self.assertEqual(len(value[1]), 10)
        expected = {}
        for way in (needs_by_cuts, needs_by_duals, needs_by_restrictions):
            for prime in PRIMES:
                expected.setdefault(prime, way(value, prime))
                self.assertEqual(way(value, prime), expected[prime])
        counts = [sum(number for i, _, number in expected[3] if i == k) for k in range(5)]
        self.assertEqual(counts, [1, 10, 15, 6, 0])
        self.assertEqual(expected[0], expected[3])
        self.assertEqual(expected[5], expected[3])
        self.assertEqual(expected[7], expected[3])
        more = sorted(expected[3] + ((3, (1,) * 6, 1), (4, (1,) * 6, 1)))
        self.assertEqual(expected[2], tuple(more))

    def test_the_plane_of_eight_generators(self):
        check_ideal(FLAT)
        for prime in PRIMES:
            expected = needs_without_the_program(FLAT, prime)
            top = [need for need in expected if need[1] == (1,) * 8]
            self.assertEqual(top, [(3, (1,) * 8, 1), (4, (1,) * 8, 1)] if prime == 2 else [])
            for way in (needs_by_cuts, needs_by_duals, needs_by_lots, needs_by_restrictions):
                self.assertEqual(way(FLAT, prime), expected)

    def test_eight_variables_and_ten_generators(self):
        value = squarefree(8, *[(j, k, 7) for j in (0, 1) for k in range(2, 7)])
        self.assertEqual(len(value[1]), 10)
        expected = [(0, (0,) * 8, 1)]
        for lot in subsets(range(7)):
            # For each choice of some of both sides there is one need.
            if any(k < 2 for k in lot) and any(k >= 2 for k in lot):
                expected.append((len(lot) - 1, tuple(int(k in lot or k == 7) for k in range(8)), 1))
        for prime in (0, 2, 5):
            self.check_all(value, prime, tuple(sorted(expected)))
        self.assertEqual(ways_for(value), [needs_by_cuts, needs_by_duals, needs_by_restrictions])

    def test_great_exponents(self):
        value = (3, ((0, 30, 60), (1, 60, 0), (60, 0, 0)))
        for prime in (0, 7):
            self.check_all(value, prime, needs_without_the_program(value, prime))
        self.assertEqual(ways_for(value), list(WAYS[:4]))


class LimitTests(unittest.TestCase):

    def check_limit(self, value, limits):
        """Check for each way the limit of the error that it raises; 0 where it raises none."""
        for way, limit in zip(WAYS, limits):
            for prime in (0, 2):
                with self.subTest(value=value, way=way.__name__):
                    if limit:
                        error_raised(self, TooMany, {"limit": limit}, way, value, prime)
                    else:
                        way(value, prime)

    def test_small(self):
        for value in ((9, ()), (9, ((0,) * 9,)), (9, ((1,) * 9,)), (12, ()), ideal(9, placed(9, (0, 1), stair(10))),
                      (12, tuple(variable(12, k) for k in range(11, -1, -1)))):
            self.check_limit(value, (8,) * 5)
        for value in ((2, stair(10)), (2, stair(59)), ideal(8, placed(8, (0, 7), stair(10)))):
            self.check_limit(value, (10,) * 5)

    def test_common_multiples(self):
        for value, many in (((7, SEVEN), 128), (MANY_8, 128), (MANY_9, 128), (MORE_8, 129), (MORE_9, 129)):
            self.assertEqual(len(common_multiples(check_ideal(value))), many)
        self.check_limit((7, SEVEN), (0, 0, 0, 16, 0))
        self.check_limit(MANY_8, (0, 0, 0, 16, 9))
        self.check_limit(MORE_8, (128,) * 5)
        self.check_limit((8, EIGHT), (128,) * 5)

    def test_generators(self):
        self.assertEqual(len(MANY_9[1]), 9)
        self.check_limit(MANY_9, (0, 0, 8, 16, 9))
        self.check_limit((2, stair(7)), (0, 0, 0, 16, 9))
        self.check_limit((2, stair(8)), (0, 0, 8, 16, 9))
        self.check_limit((2, stair(9)), (0, 0, 8, 16, 9))
        self.assertEqual(len(MORE_9[1]), 9)
        self.check_limit(MORE_9, (128,) * 5)

    def test_multiples(self):
        self.assertEqual(len(common_multiples(SIXTEEN)), 16)
        self.assertEqual(len(common_multiples(SEVENTEEN)), 17)
        self.check_limit(SIXTEEN, (0, 0, 0, 0, 0))
        self.check_limit(SEVENTEEN, (0, 0, 0, 16, 0))
        self.check_limit((4, tuple(variable(4, k) for k in range(3, -1, -1))), (0, 0, 0, 0, 0))

    def test_pairs(self):
        for k in (9, 10, 12, 13, 60):
            self.check_limit((1, ((k,),)), (0, 0, 0, 0, 0 if k == 9 else 9))
        self.check_limit((2, ((0, 4), (5, 0))), (0, 0, 0, 0, 0))
        self.check_limit((2, ((0, 5), (5, 0))), (0, 0, 0, 0, 9))
        self.check_limit((8, ((1,) * 7 + (2,),)), (0, 0, 0, 0, 0))
        self.check_limit((8, ((1,) * 7 + (3,),)), (0, 0, 0, 0, 9))
        self.check_limit((8, ((60,) * 8,)), (0, 0, 0, 0, 9))

    def test_more_than_300_faces(self):
        """The sets of variables with one of nine missing are 511 faces, and there is no error."""
        for prime in PRIMES:
            self.assertEqual(needs_by_restrictions((1, ((9,),)), prime), ((0, (0,), 1), (1, (9,), 1)))
            nine = needs_by_restrictions((8, ((1,) * 7 + (2,),)), prime)
            self.assertEqual(nine, ((0, (0,) * 8, 1), (1, (1,) * 7 + (2,), 1)))

    def test_a_chain_of_common_multiples(self):
        """Of seven generators any two have the multiple of all up to the later one."""
        generators = [(k,) + tuple(int(j != k) for j in range(1, 8)) for k in range(1, 8)]
        value = ideal(8, generators)
        self.assertEqual(len(common_multiples(value)), 14)
        expected = [(0, (0,) * 8, 1)] + [(1, g, 1) for g in generators]
        expected += [(2, (k,) + (1,) * 7, 1) for k in range(2, 8)]
        for way in (needs_by_cuts, needs_by_duals, needs_by_lots, needs_by_multiples):
            self.assertEqual(way(value, 3), tuple(sorted(expected)))

    def test_sums_of_all_products_of_two(self):
        """All products of two of four variables: the numbers of needs are known for each step."""
        value = squarefree(4, *combinations(range(4), 2))
        for prime in PRIMES:
            for way in (needs_by_cuts, needs_by_duals, needs_by_lots, needs_by_multiples, needs_by_restrictions):
                needs = way(value, prime)
                for i in range(1, 5):
                    total = sum(number for step, _, number in needs if step == i)
                    self.assertEqual(total, i * comb(4, i + 1))


if __name__ == "__main__":
    unittest.main()
