"""Stable ideals: [29]."""

import unittest
from itertools import combinations
from random import Random

from jointneeds.errors import NotStable, TooGreat, TooMany
from jointneeds.growth import first_words
from jointneeds.ideals import breach
from jointneeds.needs import common_multiples, needs_by_cuts
from jointneeds.stable import needs_by_steps, stable_breach, stable_hull, strong_breach

from tests.boxes import (
    CORNER, ahead_of_last, all_ideals, error_raised, ideal, kept, lies, limit_raised, needs_of_steps, of_degree, placed,
    stair, subsets, twice, under, variable,
)

# Ideals with the first pair, and the first triple, that fails.
BREACHES = [
    ((1, ()), None, None),
    ((12, ()), None, None),
    ((1, ((0,),)), None, None),
    ((12, ((0,) * 12,)), None, None),
    ((1, ((60,),)), None, None),
    ((3, ((1, 0, 0),)), None, None),
    ((3, ((60, 0, 0),)), None, None),
    ((3, ((0, 1, 0),)), (0, 0), (0, 1, 0)),
    ((3, ((0, 0, 1),)), (0, 0), (0, 2, 0)),
    ((3, ((0, 0, 1), (0, 1, 0))), (0, 0), (0, 2, 0)),
    ((3, ((0, 0, 1), (1, 0, 0))), (0, 1), (0, 2, 1)),
    ((3, ((0, 1, 0), (1, 0, 0))), None, None),
    ((3, ((1, 1, 0),)), (0, 0), (0, 1, 0)),
    (CORNER, None, None),
    ((2, ((0, 3), (1, 2), (2, 1), (3, 0))), None, None),
    ((2, ((0, 3), (1, 1), (3, 0))), (1, 0), (1, 1, 0)),
    ((2, ((0, 4), (1, 3), (2, 2), (3, 0))), None, None),
    ((2, ((0, 5), (1, 3), (2, 0))), None, None),
    ((2, ((0, 5), (1, 3), (3, 0))), (1, 0), (1, 1, 0)),
    ((2, ((0, 5), (3, 0))), (0, 0), (0, 1, 0)),
    # With the greatest variable all is well, with a lesser one it is not.
    ((3, ((0, 1, 1), (0, 2, 0), (1, 1, 0), (2, 0, 0))), None, (0, 1, 0)),
    ((3, ((0, 2, 1), (0, 3, 0), (1, 1, 0), (2, 0, 0))), None, None),
    ((4, ((0, 0, 1, 1), (0, 0, 2, 0), (0, 1, 1, 0), (0, 2, 0, 0), (1, 0, 0, 0))), None, (0, 2, 1)),
    # The exchange makes an exponent of 61.
    ((2, ((60, 1),)), (0, 0), (0, 1, 0)),
    # What an exchange makes lies in the ideal by a generator of lesser degree.
    ((3, ((0, 1, 3), (0, 2, 0), (1, 0, 0))), None, None),
    ((3, ((0, 1, 3), (0, 3, 0), (1, 0, 0))), (0, 1), (0, 2, 1)),
]

# Numbers of variables, monomials, and the generators of their hulls.
HULLS = [
    (1, [], []),
    (12, [], []),
    (3, [(0, 0, 0)], [(0, 0, 0)]),
    (3, [(0, 0, 0), (0, 2, 1)], [(0, 0, 0)]),
    (1, [(60,)], [(60,)]),
    (3, [(5, 0, 0)], [(5, 0, 0)]),
    (3, [(0, 1, 0)], [(0, 1, 0), (1, 0, 0)]),
    (3, [(0, 0, 1)], [(0, 0, 1), (0, 1, 0), (1, 0, 0)]),
    (3, [(0, 1, 1)], [(0, 1, 1), (0, 2, 0), (1, 0, 1), (1, 1, 0), (2, 0, 0)]),
    (3, [(0, 1, 1), (0, 1, 1)], [(0, 1, 1), (0, 2, 0), (1, 0, 1), (1, 1, 0), (2, 0, 0)]),
    (3, [(1, 0, 1)], [(1, 0, 1), (1, 1, 0), (2, 0, 0)]),
    (3, [(1, 0, 1), (0, 2, 0)], [(0, 2, 0), (1, 0, 1), (1, 1, 0), (2, 0, 0)]),
    (2, [(0, 3)], [(0, 3), (1, 2), (2, 1), (3, 0)]),
    (2, [(0, 3), (2, 0)], [(0, 3), (1, 2), (2, 0)]),
    (2, [(0, 3), (1, 1)], [(0, 3), (1, 1), (2, 0)]),
    # Those of greater degree may stand ahead, and give only what lies not yet in the hull.
    (3, [(0, 0, 3), (1, 0, 0), (0, 2, 1)], [(0, 0, 3), (0, 1, 2), (0, 2, 1), (0, 3, 0), (1, 0, 0)]),
    (3, [(0, 0, 2), (1, 1, 0), (2, 0, 5)], [(0, 0, 2), (0, 1, 1), (0, 2, 0), (1, 0, 1), (1, 1, 0), (2, 0, 0)]),
]


def moved(g, m, j):
    """A monomial with one exponent less at m, and one more at j."""
    return tuple(x - (k == m) + (k == j) for k, x in enumerate(g))


def fails(value, strong):
    """All triples (g, m, j) that fail, ascending."""
    n, generators = value
    found = []
    for number, g in enumerate(generators):
        inside = [k for k in range(n) if g[k]]
        for m in inside if strong else inside[-1:]:
            found.extend((number, m, j) for j in range(m) if not lies(generators, moved(g, m, j)))
    return found


def hull_by_exchanges(n, monomials):
    """The generators of a hull: all exchanges until nothing new comes."""
    found = {tuple(m) for m in monomials}
    size = -1
    while size < len(found):
        size = len(found)
        found |= {moved(g, m, j) for g in found for j, m in combinations(range(n), 2) if g[m]}
    return ideal(n, [m for m in found if not any(o != m and under(o, m) for o in found)])


def some_ideals():
    """Ideals, some of which are stable."""
    boxes = all_ideals(1, 3) + all_ideals(2, 3) + all_ideals(3, 1) + all_ideals(3, 2)[::60]
    return boxes + [value for value, _, _ in BREACHES if value != (2, ((60, 1),))] + stable_ideals()


def stable_ideals():
    """Proper ideals that are stable, some of which are not strongly stable."""
    random = Random(29)
    found = [value for value in all_ideals(2, 3) + all_ideals(3, 1) + all_ideals(3, 2)[::3] if not fails(value, False)]
    for _ in range(40):
        n = random.randint(2, 4)
        words = of_degree(n, 1) + of_degree(n, 2) + of_degree(n, 3)
        found.append(hull_by_exchanges(n, random.sample(words, 2)))
    found.extend(value for value, pair, _ in BREACHES if pair is None and value[0] < 9)
    return [value for value in found if (0,) * value[0] not in value[1]]


class BreachTests(unittest.TestCase):

    def test_by_hand(self):
        for value, pair, triple in BREACHES:
            with self.subTest(value):
                self.assertIsNone(breach(value))
                self.assertEqual(twice(self, stable_breach, value), pair)
                self.assertEqual(twice(self, strong_breach, value), triple)

    def test_all_exchanges(self):
        kinds = {}
        for value in some_ideals():
            weak, strong = fails(value, False), fails(value, True)
            self.assertEqual(stable_breach(value), (weak[0][0], weak[0][2]) if weak else None)
            self.assertEqual(strong_breach(value), strong[0] if strong else None)
            kinds[(bool(weak), bool(strong))] = True
        self.assertEqual(len(kinds), 3)

    def test_many_variables_and_generators(self):
        self.assertIsNone(strong_breach((2, stair(59))))
        twelve = tuple(variable(12, k) for k in range(11, -1, -1))
        self.assertIsNone(strong_breach((12, twelve)))
        self.assertEqual(stable_breach((12, twelve[:11])), (0, 0))
        self.assertEqual(stable_breach((12, twelve[:5] + twelve[6:])), (0, 6))
        self.assertEqual(strong_breach((12, twelve[:5] + twelve[6:])), (0, 11, 6))

    def test_the_ideals_of_first_words(self):
        for n, row in ((2, (1, 2, 3, 3, 2, 0)), (3, (1, 3, 4, 4)), (3, (1, 3, 5, 7, 8, 2)), (4, (1, 3, 3, 4, 1, 0)),
                       (12, (1, 12, 18)), (5, (1, 0)), (3, (0,))):
            self.assertIsNone(strong_breach(first_words(n, row)))
            self.assertIsNone(stable_breach(first_words(n, row)))


class HullTests(unittest.TestCase):

    def test_by_hand(self):
        for n, monomials, generators in HULLS:
            with self.subTest(n=n, monomials=monomials):
                self.assertEqual(twice(self, stable_hull, n, tuple(monomials)), (n, tuple(generators)))
                self.assertEqual(kept(self, stable_hull, n, monomials), (n, tuple(generators)))
                self.assertEqual(stable_hull(n, monomials[::-1]), (n, tuple(generators)))

    def test_all_exchanges(self):
        random = Random(92)
        for _ in range(120):
            n = random.randint(1, 4)
            words = [m for degree in range(1, 5) for m in of_degree(n, degree)]
            monomials = random.sample(words, random.randint(1, min(4, len(words))))
            value = stable_hull(n, monomials)
            self.assertIsNone(breach(value))
            self.assertEqual(value, hull_by_exchanges(n, monomials))
            self.assertIsNone(strong_breach(value))

    def test_strongly_stable_ideals_are_their_hulls(self):
        for value in some_ideals():
            n, generators = value
            self.assertEqual(stable_hull(n, generators) == value, not fails(value, True))

    def test_number_of_generators(self):
        self.assertEqual(stable_hull(2, [(0, 59)]), (2, stair(59)))
        limit_raised(self, TooMany, stable_hull, 2, [(0, 60)])
        # All products of two of ten, and of eleven variables.
        self.assertEqual(stable_hull(12, [tuple(2 * x for x in variable(12, 9))]),
                         ideal(12, [m[:10] + (0, 0) for m in of_degree(12, 2) if not any(m[10:])]))
        limit_raised(self, TooMany, stable_hull, 12, [tuple(2 * x for x in variable(12, 10))])
        limit_raised(self, TooMany, stable_hull, 12, [(0,) * 11 + (60,)])
        limit_raised(self, TooMany, stable_hull, 12, [(60,) * 12])
        # Sixty, and then one more, in several degrees.
        sixty = [variable(3, 0), (0, 57, 1)]
        self.assertEqual(len(stable_hull(3, sixty)[1]), 3)
        self.assertEqual(len(stable_hull(3, [(1, 0, 0), (0, 0, 58)])[1]), 60)
        limit_raised(self, TooMany, stable_hull, 3, [(1, 0, 0), (0, 0, 59)])

    def test_many_on_the_way(self):
        twelve = ideal(12, [variable(12, k) for k in range(12)])
        for monomials in ([(60,) * 12, variable(12, 11)], [variable(12, 11), (0,) * 11 + (60,)],
                          [(0,) * 11 + (60,), (60,) * 12, (1,) * 12, variable(12, 11)]):
            self.assertEqual(stable_hull(12, monomials), twelve)
        self.assertEqual(stable_hull(2, [(0, 60), (0, 1)]), (2, ((0, 1), (1, 0))))
        self.assertEqual(stable_hull(12, [(0,) * 11 + (60,), (0,) * 12]), (12, ((0,) * 12,)))
        # The hull of (0, 60) alone has 61 generators, with (30, 0) it has 31.
        self.assertEqual(stable_hull(2, [(0, 60), (30, 0)]), ideal(2, [(k, 60 - k) for k in range(30)] + [(30, 0)]))

    def test_exponents(self):
        self.assertEqual(stable_hull(2, [(30, 30)]), ideal(2, [(30 + k, 30 - k) for k in range(31)]))
        limit_raised(self, TooGreat, stable_hull, 2, [(31, 30)])
        limit_raised(self, TooGreat, stable_hull, 2, [(60, 1)])
        self.assertEqual(stable_hull(2, [(60, 1), (60, 0)]), (2, ((60, 0),)))
        self.assertEqual(stable_hull(2, [(60, 60), (0, 1)]), (2, ((0, 1), (1, 0))))

    def test_both_bounds_at_once(self):
        limit_raised(self, TooMany, stable_hull, 2, [(60, 60)])
        limit_raised(self, TooMany, stable_hull, 3, [(60, 1, 0), (0, 0, 20)])


class StepTests(unittest.TestCase):

    def test_by_hand(self):
        expected = ((0, (0, 0), 1), (1, (0, 3), 1), (1, (1, 1), 1), (1, (2, 0), 1), (2, (1, 3), 1), (2, (2, 1), 1))
        self.assertEqual(twice(self, needs_by_steps, CORNER), expected)
        self.assertEqual(needs_by_steps((3, ((60, 0, 0),))), ((0, (0, 0, 0), 1), (1, (60, 0, 0), 1)))
        value = (3, ((0, 1, 1), (0, 2, 0), (1, 1, 0), (2, 0, 0)))
        expected = [(0, (0, 0, 0), 1), (1, (0, 1, 1), 1), (1, (0, 2, 0), 1), (1, (1, 1, 0), 1), (1, (2, 0, 0), 1),
                    (2, (0, 2, 1), 1), (2, (1, 1, 1), 1), (2, (1, 2, 0), 1), (2, (2, 1, 0), 1), (3, (1, 2, 1), 1)]
        self.assertEqual(needs_by_steps(value), tuple(expected))

    def test_zero_ideal(self):
        for n in (1, 12):
            self.assertEqual(needs_by_steps((n, ())), ((0, (0,) * n, 1),))

    def test_the_list_of_needs_over_every_prime(self):
        compared = 0
        for value in stable_ideals():
            found = needs_by_steps(value)
            self.assertEqual(found, needs_of_steps(value, ahead_of_last))
            if len(value[1]) > 10 or len(common_multiples(value)) > 128:
                continue
            compared += 1
            for prime in (0, 2, 7):
                self.assertEqual(found, needs_by_cuts(value, prime))
        self.assertGreater(compared, 60)

    def test_more_than_a_small_ideal(self):
        twelve = (12, tuple(variable(12, k) for k in range(11, -1, -1)))
        expected = sorted((len(lot), tuple(int(k in lot) for k in range(12)), 1) for lot in subsets(range(12)))
        self.assertEqual(needs_by_steps(twelve), tuple(expected))
        steps = (2, stair(59))
        expected = [(0, (0, 0), 1)] + [(1, g, 1) for g in steps[1]] + [(2, (k + 1, 59 - k), 1) for k in range(59)]
        self.assertEqual(needs_by_steps(steps), tuple(expected))

    def test_not_stable(self):
        for value, pair, _ in BREACHES:
            if pair is not None:
                error_raised(self, NotStable, {}, needs_by_steps, value)
        error_raised(self, NotStable, {}, needs_by_steps, (12, ((0,) * 11 + (1,),)))
        error_raised(self, NotStable, {}, needs_by_steps, ideal(9, placed(9, (7, 8), stair(59))))


if __name__ == "__main__":
    unittest.main()
