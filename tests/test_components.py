"""Components, and what is told by their supports: [7] and [8]."""

import unittest
from itertools import combinations

from jointneeds.components import (
    components, dimension, ideal_of_components, minimal_primes, primary_parts, primes,
)
from jointneeds.errors import TooMany
from jointneeds.ideals import breach

from tests.boxes import (
    all_ideals, box, error_raised, ideal, lcm, lies, placed, plus, squarefree, stair, subsets, twice, variable,
)

# The numbers of variables and the greatest exponents of the ideals to be tried.
SIZES = ((1, 4), (2, 3), (3, 1))

COMPONENTS = [
    ((2, ((0, 3), (1, 1), (2, 0))), ((1, 3), (2, 1))),
    ((2, ((2, 1),)), ((0, 1), (2, 0))),
    ((2, ((1, 1), (2, 0))), ((1, 0), (2, 1))),
    ((3, ((0, 1, 1), (1, 0, 1), (1, 1, 0))), ((0, 1, 1), (1, 0, 1), (1, 1, 0))),
    ((3, ((0, 0, 2), (0, 2, 0), (1, 1, 1), (2, 0, 0))), ((1, 2, 2), (2, 1, 2), (2, 2, 1))),
    ((3, ((1, 2, 3),)), ((0, 0, 3), (0, 2, 0), (1, 0, 0))),
    ((1, ((60,),)), ((60,),)),
    ((1, ((1,),)), ((1,),)),
    ((1, ()), ((0,),)),
    ((8, ()), ((0,) * 8,)),
    ((1, ((0,),)), ()),
    ((8, ((0,) * 8,)), ()),
    ((2, ((0, 60), (60, 0))), ((60, 60),)),
    ((8, ((60,) * 8,)), tuple((0,) * (7 - k) + (60,) + (0,) * k for k in range(8))),
    ((8, tuple(variable(8, k) for k in range(7, -1, -1))), ((1,) * 8,)),
    ((2, stair(9)), tuple((k, 10 - k) for k in range(1, 10))),
]


def in_part(part, monomial):
    """Whether a monomial lies in the ideal that a component stands for."""
    return any(0 < entry <= exponent for entry, exponent in zip(part, monomial))


def part_within(part, other):
    """Whether the ideal of a component lies in that of another one."""
    return all(entry == 0 or 0 < high <= entry for entry, high in zip(part, other))


def support(part):
    """The variables with an entry above 0."""
    return tuple(k for k, entry in enumerate(part) if entry > 0)


def some_ideals():
    """All small ideals, some greater ones, and how far their exponents go."""
    for n, top in SIZES:
        for value in all_ideals(n, top):
            yield n, top, value
    for value in all_ideals(3, 2)[::6]:
        yield 3, 2, value


class ComponentTests(unittest.TestCase):

    def test_by_hand(self):
        for value, parts in COMPONENTS:
            with self.subTest(value):
                self.assertEqual(twice(self, components, value), parts)

    def test_each_monomial_of_a_box(self):
        for n, top, value in some_ideals():
            parts = components(value)
            for m in box(n, top + 1):
                self.assertEqual(lies(value[1], m), all(in_part(part, m) for part in parts), (value, m))

    def test_none_contains_another_one(self):
        for _, _, value in some_ideals():
            parts = components(value)
            for a in parts:
                for b in parts:
                    self.assertEqual(part_within(a, b), a == b, value)

    def test_ascending_tuples(self):
        for n, top, value in some_ideals():
            parts = twice(self, components, value)
            self.assertEqual(parts, tuple(sorted(set(parts))))
            for part in parts:
                self.assertEqual(len(part), n)
                self.assertTrue(all(0 <= entry <= top for entry in part))

    def test_eight_variables_and_ten_generators(self):
        pairs = list(combinations(range(8), 2))
        value = squarefree(8, *pairs[::2][:10])
        expected = []
        for prime in subsets(range(8)):
            if all(set(prime) & set(pair) for pair in pairs[::2][:10]):
                if not any(set(other) < set(prime) for other in expected):
                    expected.append(prime)
        parts = sorted(tuple(int(k in prime) for k in range(8)) for prime in expected)
        self.assertEqual(components(value), tuple(parts))


class MeetTests(unittest.TestCase):

    def test_by_hand(self):
        self.assertEqual(twice(self, ideal_of_components, 2, [(1, 3), (2, 1)]), (2, ((0, 3), (1, 1), (2, 0))))
        self.assertEqual(ideal_of_components(2, [(2, 0), (0, 1)]), (2, ((2, 1),)))
        self.assertEqual(ideal_of_components(3, [(1, 0, 2), (0, 4, 0)]), (3, ((0, 4, 2), (1, 4, 0))))
        self.assertEqual(ideal_of_components(1, [(60,)]), (1, ((60,),)))

    def test_no_parts(self):
        for n in (1, 2, 12):
            self.assertEqual(ideal_of_components(n, []), (n, ((0,) * n,)))
            self.assertEqual(ideal_of_components(n, ()), (n, ((0,) * n,)))

    def test_empty_parts(self):
        for n in (1, 12):
            self.assertEqual(ideal_of_components(n, [(0,) * n]), (n, ()))
            self.assertEqual(ideal_of_components(n, [(0,) * n, (1,) * n]), (n, ()))
            self.assertEqual(ideal_of_components(n, [(1,) * n, (0,) * n, (60,) * n]), (n, ()))

    def test_parts_that_stand_twice_or_within_one_another(self):
        expected = (2, ((0, 3), (1, 1), (2, 0)))
        self.assertEqual(ideal_of_components(2, [(2, 1), (1, 3), (2, 1), (1, 3)]), expected)
        self.assertEqual(ideal_of_components(2, [(2, 1), (1, 1), (1, 3), (1, 2)]), expected)
        self.assertEqual(ideal_of_components(2, [(2, 3), (2, 0)]), (2, ((2, 0),)))

    def test_each_monomial_of_a_box(self):
        parts = box(2, 3)
        for a in parts:
            for b in parts:
                for c in parts[::3]:
                    self.check_meet(2, 4, [a, b, c])
        for a in box(3, 2):
            for b in box(3, 2)[::2]:
                self.check_meet(3, 3, (a, b))

    def check_meet(self, n, top, parts):
        """Check what a meet of components has in a box."""
        made = ideal_of_components(n, parts)
        self.assertIsNone(breach(made))
        self.assertEqual(made[0], n)
        for m in box(n, top):
            self.assertEqual(lies(made[1], m), all(in_part(part, m) for part in parts), (parts, m))

    def test_back_from_components(self):
        for n, _, value in some_ideals():
            parts = components(value)
            if len(parts) <= 10:
                self.assertEqual(ideal_of_components(n, parts), value)
                self.assertEqual(ideal_of_components(n, list(parts[::-1])), value)

    def test_a_list_is_not_changed(self):
        parts = [(2, 1), (1, 3), (2, 1)]
        ideal_of_components(2, parts)
        self.assertEqual(parts, [(2, 1), (1, 3), (2, 1)])

    def test_ten_and_eleven_parts(self):
        self.assertEqual(ideal_of_components(1, [(k,) for k in range(1, 11)]), (1, ((10,),)))
        self.assertEqual(ideal_of_components(2, [(1, 1)] * 10), (2, ((0, 1), (1, 0))))
        many = {"limit": 10}
        error_raised(self, TooMany, many, ideal_of_components, 1, [(k,) for k in range(1, 12)])
        error_raised(self, TooMany, many, ideal_of_components, 2, [(1, 1)] * 11)
        error_raised(self, TooMany, many, ideal_of_components, 2, ((0, 0),) * 11)

    def test_sixty_and_more_generators(self):
        sides = [placed(12, range(5), [(1,) * 5])[0], placed(12, range(5, 9), [(2,) * 4])[0],
                 placed(12, range(9, 12), [(60,) * 3])[0]]
        self.assertEqual(len(ideal_of_components(12, sides)[1]), 60)
        wider = [(1,) * 4 + (0,) * 8, (0,) * 4 + (1,) * 4 + (0,) * 4, (0,) * 8 + (1,) * 4]
        error_raised(self, TooMany, {"limit": 60}, ideal_of_components, 12, wider)
        self.assertEqual(ideal_of_components(12, wider + [(0,) * 12]), (12, ()))

    def test_too_many_parts_and_generators(self):
        wider = [(1,) * 4 + (0,) * 8, (0,) * 4 + (1,) * 4 + (0,) * 4, (0,) * 8 + (1,) * 4]
        error_raised(self, TooMany, {"limit": 60}, ideal_of_components, 12, wider * 3)
        error_raised(self, TooMany, {"limit": 10}, ideal_of_components, 12, wider * 4)

    def test_sixty_one_generators(self):
        # x0^3, x0^2 c, x0 b c and a b c, with two a, three b and six c.
        parts = [(1,) + (1,) * 2 + (0,) * 9, (2,) + (0,) * 2 + (1,) * 3 + (0,) * 6, (3,) + (0,) * 5 + (1,) * 6]
        error_raised(self, TooMany, {"limit": 60}, ideal_of_components, 12, parts)
        parts[0] = (1,) + (1, 0) + (0,) * 9
        self.assertEqual(len(ideal_of_components(12, parts)[1]), 1 + 6 + 18 + 18)


class PrimeTests(unittest.TestCase):

    def test_by_hand(self):
        self.assertEqual(primes((2, ((1, 1), (2, 0)))), ((0,), (0, 1)))
        self.assertEqual(minimal_primes((2, ((1, 1), (2, 0)))), ((0,),))
        value = (3, ((0, 1, 1), (1, 0, 1), (1, 1, 0)))
        self.assertEqual(primes(value), ((0, 1), (0, 2), (1, 2)))
        self.assertEqual(minimal_primes(value), ((0, 1), (0, 2), (1, 2)))
        value = (3, ((1, 1, 0), (2, 0, 1)))
        self.assertEqual(primes(value), ((0,), (0, 1), (1, 2)))
        self.assertEqual(minimal_primes(value), ((0,), (1, 2)))
        value = (4, ((0, 0, 0, 1), (0, 1, 1, 0), (1, 0, 0, 0)))
        self.assertEqual(primes(value), ((0, 1, 3), (0, 2, 3)))
        # Tuples stand in the sequence of tuples, whatever their lengths.
        value = (4, ((0, 0, 1, 1), (1, 1, 0, 1)))
        self.assertEqual(primes(value), ((0, 2), (1, 2), (3,)))
        self.assertEqual(primes((3, ((1, 1, 1),))), ((0,), (1,), (2,)))

    def test_zero_ideal_and_whole_ring(self):
        for n in (1, 2, 8):
            for call in (primes, minimal_primes):
                self.assertEqual(twice(self, call, (n, ())), ((),))
                self.assertEqual(twice(self, call, (n, ((0,) * n,))), ())
            self.assertEqual(dimension((n, ())), n)
            self.assertEqual(dimension((n, ((0,) * n,))), -1)
            self.assertEqual(primary_parts((n, ())), (((), (n, ())),))
            self.assertEqual(primary_parts((n, ((0,) * n,))), ())

    def test_primes_are_what_takes_one_monomial_into_the_ideal(self):
        for n, top, value in some_ideals():
            found = set()
            for m in box(n, top):
                into = [k for k in range(n) if lies(value[1], plus(m, variable(n, k)))]
                others = tuple(0 if k in into else 20 for k in range(n))
                if not lies(value[1], plus(m, others)):
                    found.add(tuple(into))
            self.assertEqual(twice(self, primes, value), tuple(sorted(found)), value)

    def test_minimal_primes_are_the_least_sets_that_meet_all_supports(self):
        for n, _, value in some_ideals():
            supports = [set(support(generator)) for generator in value[1]]
            meeting = [set(prime) for prime in subsets(range(n)) if all(set(prime) & s for s in supports)]
            least = [prime for prime in meeting if not any(other < prime for other in meeting)]
            self.assertEqual(twice(self, minimal_primes, value), tuple(sorted(map(tuple, map(sorted, least)))))
            expected = n - min(map(len, least)) if least else -1
            self.assertEqual(twice(self, dimension, value), expected, value)

    def test_dimension_by_hand(self):
        self.assertEqual(dimension((1, ((60,),))), 0)
        self.assertEqual(dimension((3, ((1, 2, 3),))), 2)
        self.assertEqual(dimension((3, ((0, 0, 1), (1, 1, 0)))), 1)
        self.assertEqual(dimension(squarefree(8, (0, 1), (2, 3), (4, 5), (6, 7))), 4)
        self.assertEqual(dimension((8, tuple(variable(8, k) for k in range(7, -1, -1)))), 0)
        self.assertEqual(dimension((2, stair(9))), 0)


class PrimaryPartTests(unittest.TestCase):

    def test_by_hand(self):
        expected = (((0,), (2, ((1, 0),))), ((0, 1), (2, ((0, 1), (2, 0)))))
        self.assertEqual(primary_parts((2, ((1, 1), (2, 0)))), expected)
        self.assertEqual(primary_parts((2, ((2, 3),))), (((0,), (2, ((2, 0),))), ((1,), (2, ((0, 3),)))))
        value = (2, ((0, 3), (1, 1), (2, 0)))
        self.assertEqual(primary_parts(value), (((0, 1), value),))
        self.assertEqual(primary_parts((1, ((60,),))), (((0,), (1, ((60,),))),))

    def test_each_monomial_of_a_box(self):
        for n, top, value in some_ideals():
            parts = components(value)
            found = twice(self, primary_parts, value)
            self.assertEqual([prime for prime, _ in found], sorted({support(part) for part in parts}))
            for prime, part_ideal in found:
                self.assertIsNone(breach(part_ideal))
                same = [part for part in parts if support(part) == prime]
                for m in box(n, top + 1):
                    self.assertEqual(lies(part_ideal[1], m), all(in_part(part, m) for part in same))

    def test_minimal_ones_come_of_setting_the_other_variables_to_1(self):
        for n, top, value in some_ideals():
            least = minimal_primes(value)
            for prime, part_ideal in primary_parts(value):
                if prime in least:
                    far = tuple(0 if k in prime else top for k in range(n))
                    for m in box(n, top):
                        self.assertEqual(lies(part_ideal[1], m), lies(value[1], plus(m, far)))

    def test_more_than_ten_components_of_one_prime(self):
        value = ideal(3, [(0, 0, 9), (0, 9, 0), (9, 0, 0), (1, 2, 7), (2, 7, 1), (7, 1, 2), (3, 5, 4), (5, 4, 3),
                          (4, 3, 5)])
        self.assertGreater(len(components(value)), 10)
        self.assertEqual(primary_parts(value), (((0, 1, 2), value),))


    # Nine components of the one with 5 make 56 generators, and of the other one 70.
    HEAD = ((0, 0, 0, 0, 5, 1, 7, 0), (0, 0, 0, 0, 7, 0, 0, 0), (0, 0, 0, 7, 0, 0, 0, 0), (0, 0, 3, 0, 0, 0, 4, 4),
            (0, 3, 0, 4, 5, 0, 0, 3), (0, 4, 1, 2, 2, 0, 1, 2), (0, 6, 0, 0, 0, 0, 0, 6), (0, 6, 2, 1, 1, 0, 2, 0))
    TAIL = ((1, 0, 7, 5, 0, 4, 0, 0),)
    WITHIN = (8, HEAD + ((0, 7, 0, 0, 0, 0, 0, 2),) + TAIL)
    BEYOND = (8, HEAD + ((0, 7, 0, 0, 0, 0, 0, 5),) + TAIL)

    def generators_of(self, value):
        """For each prime the least generators of the meet of its components, one component after another."""
        rows = {}
        for part in components(value):
            powers = [tuple(entry if j == k else 0 for j in range(8)) for k, entry in enumerate(part) if entry]
            made = {lcm([m, power], 8) for m in rows.get(support(part), [(0,) * 8]) for power in powers}
            rows[support(part)] = [m for m in sorted(made) if not lies(made - {m}, m)]
        return rows

    def test_more_than_sixty_generators(self):
        rows = self.generators_of(self.WITHIN)
        self.assertEqual(max(map(len, rows.values())), 56)
        self.assertEqual(primary_parts(self.WITHIN), tuple((prime, (8, tuple(rows[prime]))) for prime in sorted(rows)))
        rows = self.generators_of(self.BEYOND)
        self.assertEqual(max(map(len, rows.values())), 70)
        error_raised(self, TooMany, {"limit": 60}, primary_parts, self.BEYOND)
        # The other functions return no ideals.
        self.assertEqual(primes(self.BEYOND), tuple(sorted(rows)))
        self.assertEqual(dimension(self.BEYOND), 5)


class SmallTests(unittest.TestCase):

    CALLS = (components, primes, minimal_primes, primary_parts, dimension)

    def test_eight_and_nine_variables(self):
        for call in self.CALLS:
            call((8, ((1,) * 8,)))
            for value in ((9, ()), (9, ((0,) * 9,)), (9, ((1,) * 9,)), (12, ((1,) * 12,))):
                error_raised(self, TooMany, {"limit": 8}, call, value)

    def test_ten_and_eleven_generators(self):
        for call in self.CALLS:
            call((2, stair(9)))
            call(placed_stair(9))
            error_raised(self, TooMany, {"limit": 10}, call, (2, stair(10)))
            error_raised(self, TooMany, {"limit": 10}, call, placed_stair(10))
            error_raised(self, TooMany, {"limit": 10}, call, (2, stair(59)))

    def test_both(self):
        for call in self.CALLS:
            error_raised(self, TooMany, {"limit": 8}, call, ideal(9, placed(9, (0, 1), stair(10))))
            error_raised(self, TooMany, {"limit": 8}, call, ideal(12, placed(12, (0, 1), stair(59))))


def placed_stair(degree):
    """The ideal in eight variables with all monomials of a degree in two of them."""
    return ideal(8, placed(8, (3, 5), stair(degree)))


if __name__ == "__main__":
    unittest.main()
