"""Rows of left over numbers, and the ideals of first words: [24] and [30]."""

import unittest
from itertools import combinations, product
from math import comb
from random import Random

from jointneeds.counts import count_left, left_over, left_polynomial, settled_from
from jointneeds.errors import NotGrowth, TooMany
from jointneeds.growth import binomial_row, first_words, first_words_like, grown, growth_breach
from jointneeds.ideals import breach
from jointneeds.needs import needs_by_cuts

from tests.boxes import (
    CORNER, ahead_of_last, all_ideals, error_raised, ideal, kept, lies, needs_of_steps, of_degree, placed, small_wanted,
    squarefree, stair, twice, under, variable,
)

# Numbers a and d, the row of a, and what a grows to.
GROWN = [
    (1, 1, (1,), 1),
    (1, 2, (2,), 1),
    (1, 60, (60,), 1),
    (2, 1, (2,), 3),
    (3, 1, (3,), 6),
    (2, 2, (2, 1), 2),
    (3, 2, (3,), 4),
    (4, 2, (3, 1), 5),
    (5, 2, (3, 2), 7),
    (6, 2, (4,), 10),
    (11, 3, (5, 2), 16),
    (3, 3, (3, 2, 1), 3),
    (60, 60, tuple(range(60, 0, -1)), 60),
    (61, 60, (61,), 62),
    (62, 60, (61, 59), 63),
    (10**6, 1, (10**6,), 500000500000),
    (10**6, 2, (1414, 1009), 471700300),
    (999999, 2, (1414, 1008), 471699291),
]

# Rows in so many variables with the index that breaks them.
BROKEN = [
    (3, (2,), 0), (3, (-1,), 0), (3, (10**6, 0), 0), (12, (2, 13, -1), 0), (1, (-1, -1), 0),
    (3, (1, 4), 1), (1, (1, 2), 1), (12, (1, 13), 1), (3, (1, -1), 1), (3, (1, 10**6), 1),
    (3, (1, 3, 7), 2), (3, (1, 2, 4), 2), (3, (1, 0, 1), 2), (3, (1, 3, -1), 2), (2, (1, 1, 2), 2),
    (3, (1, 3, 6, 11), 3), (3, (1, 3, 5, 8), 3), (3, (1, 3, 2, 3), 3), (3, (1, 2, 0, 1), 3), (3, (1, 2, 2, -1), 3),
    (3, (1, 3, 5, 7, 10, 12), 4), (3, (1, 3, 5, 7, 9, 12), 5), (2, (1, 2, 3, 3, 3, 4), 5), (2, (1, 2, 2, 1, 2), 4),
    (3, (0, 1), 1), (3, (0, -1), 1), (3, (0, 0, 0, 5), 3), (3, (0, 0, -2, 5), 2), (1, (0, 1, 2), 1),
    (1, (1,) * 39 + (2,), 39), (12, (0,) * 39 + (1,), 39), (2, tuple(range(1, 40)) + (41,), 39),
]

# Rows that are broken nowhere.
WHOLE = [
    (1, (0,)), (1, (1,)), (12, (0,) * 40), (12, (1,) + (0,) * 39), (1, (1,) * 40), (12, (1, 12, 78)), (3, (1, 0)),
    (3, (1, 3, 6, 10)), (3, (1, 3, 5, 7, 9, 11)), (2, tuple(range(1, 41))), (3, (1, 2, 2, 2)), (3, (1, 2, 3, 4)),
    (3, (1, 3, 3, 4)), (3, (1, 3, 2, 2, 1, 1, 0)), (12, (1, 12, 1, 1)), (2, (1, 2, 3, 3, 3, 2, 2, 0, 0)),
    (12, (1, 12, 50, 100, 246, 246)), (12, tuple(comb(k + 11, 11) for k in range(9))),
]


def sum_of_row(row, d):
    """The sum of binomial coefficients that a row of upper numbers tells."""
    return sum(comb(k, d - place) for place, k in enumerate(row))


def first_by_definition(n, row):
    """The ideal of first words, made of all monomials that are not among the first ones."""
    inside = []
    for degree, entry in enumerate(row):
        inside.extend(of_degree(n, degree)[entry:])
    return ideal(n, [m for m in inside if not any(other != m and under(other, m) for other in inside)])


def rows_that_occur(n, length):
    """The rows of left over numbers of all ideals in n variables, up to a length."""
    rows = {((0,) * length)}
    ends = [([(0,) * n], (1,))]
    while ends:
        left, row = ends.pop()
        if len(row) == length:
            rows.add(row)
            continue
        above = [m for m in of_degree(n, len(row)) if all(lower in left for lower in below(m))]
        for size in range(len(above) + 1):
            # In the last degree only the number counts.
            lots = combinations(above, size) if len(row) < length - 1 else [above[:size]]
            ends.extend((list(lot), row + (size,)) for lot in lots)
    return rows


def below(m):
    """What a monomial is a variable times of."""
    return [m[:k] + (m[k] - 1,) + m[k + 1:] for k in range(len(m)) if m[k]]


class BinomialTests(unittest.TestCase):

    def test_by_hand(self):
        for a, d, row, more in GROWN:
            with self.subTest(a=a, d=d):
                self.assertEqual(twice(self, binomial_row, a, d), row)
                self.assertEqual(twice(self, grown, a, d), more)

    def check_row(self, a, d):
        """Check that a row is of the form that there is just one of."""
        row = binomial_row(a, d)
        self.assertEqual(sum_of_row(row, d), a)
        self.assertTrue(all(high > low for high, low in zip(row, row[1:])))
        self.assertLessEqual(len(row), d)
        self.assertGreaterEqual(row[-1], d - len(row) + 1)
        raised = sum(comb(k + 1, d - place + 1) for place, k in enumerate(row))
        self.assertEqual(grown(a, d), raised)

    def test_there_is_just_one(self):
        for d in range(1, 61):
            for a in list(range(1, 40)) + [99999, 999999, 10**6]:
                self.check_row(a, d)

    def test_against_all_rows(self):
        for d in range(1, 5):
            rows = {}
            for length in range(1, d + 1):
                for row in combinations(range(8, 0, -1), length):
                    if all(k >= d - place for place, k in enumerate(row)):
                        rows.setdefault(sum_of_row(row, d), []).append(row)
            for a, found in rows.items():
                self.assertEqual([binomial_row(a, d)], found)

    def test_just_at_a_binomial_coefficient(self):
        for d in range(1, 61):
            for k in range(d, d + 6):
                self.assertEqual(binomial_row(comb(k, d), d), (k,))
                self.assertEqual(grown(comb(k, d), d), comb(k + 1, d + 1))
                self.assertEqual(binomial_row(comb(k + 1, d) - 1, d)[0], k)

    def test_zero_grows_to_zero(self):
        for d in (1, 2, 30, 60):
            self.assertEqual(grown(0, d), 0)

    def test_the_greatest_numbers_of_words_that_can_follow(self):
        """What is left over can grow as far as when it consists of the first words."""
        for n in (1, 2, 3):
            for d in (1, 2, 3):
                words = of_degree(n, d)
                for a in range(len(words) + 1):
                    over = [m for m in of_degree(n, d + 1) if all(lower in words[:a] for lower in below(m))]
                    self.assertEqual(grown(a, d), len(over))


class BreachTests(unittest.TestCase):

    def test_broken(self):
        for n, row, place in BROKEN:
            with self.subTest(n=n, row=row):
                self.assertEqual(twice(self, growth_breach, n, row), place)
                self.assertEqual(kept(self, growth_breach, n, list(row)), place)

    def test_whole(self):
        for n, row in WHOLE:
            with self.subTest(n=n, row=row):
                self.assertIsNone(growth_breach(n, row))
                self.assertIsNone(kept(self, growth_breach, n, list(row)))

    def test_one_too_great_at_each_place(self):
        for n, row in WHOLE:
            for place in range(len(row)):
                most = 1 if place == 0 else n if place == 1 else grown(row[place - 1], place - 1)
                if row[0] == 0 and place > 0:
                    most = 0
                self.assertEqual(growth_breach(n, row[:place] + (most + 1,)), place)
                self.assertIsNone(growth_breach(n, row[:place] + (most,)) if place else None)

    def test_just_the_rows_that_occur(self):
        for n, length, top in ((1, 5, 2), (2, 4, 5), (3, 4, 11), (2, 5, 5)):
            occur = rows_that_occur(n, length)
            for row in product(*[range(min(top, comb(k + n - 1, n - 1) + 1) + 1) for k in range(length)]):
                self.assertEqual(growth_breach(n, row) is None, row in occur, (n, row))


class WordTests(unittest.TestCase):

    def test_by_hand(self):
        self.assertEqual(twice(self, first_words, 2, (1, 2, 1, 1, 0)), (2, ((0, 4), (1, 1), (2, 0))))
        self.assertEqual(first_words(3, (1, 3, 4, 4)), (3, ((1, 0, 2), (1, 1, 0), (2, 0, 0))))
        self.assertEqual(first_words(3, (1, 2)), (3, ((1, 0, 0),)))
        self.assertEqual(first_words(3, (1, 1)), (3, ((0, 1, 0), (1, 0, 0))))
        self.assertEqual(first_words(3, (1, 0)), (3, ((0, 0, 1), (0, 1, 0), (1, 0, 0))))
        self.assertEqual(first_words(1, (1,) * 39 + (0,)), (1, ((39,),)))
        self.assertEqual(first_words(4, (1, 4, 9)), (4, ((2, 0, 0, 0),)))

    def test_zero_ideal_and_whole_ring(self):
        for n in (1, 2, 12):
            self.assertEqual(first_words(n, (1,)), (n, ()))
            self.assertEqual(first_words(n, (1, n)), (n, ()))
            self.assertEqual(first_words(n, (0,)), (n, ((0,) * n,)))
            self.assertEqual(first_words(n, (0, 0, 0)), (n, ((0,) * n,)))
        self.assertEqual(first_words(2, tuple(range(1, 41))), (2, ()))
        self.assertEqual(first_words(1, (0,) * 40), (1, ((0,),)))

    def rows(self):
        """Rows of left over numbers."""
        random = Random(24)
        found = [(n, row) for n, row in WHOLE if n < 5 and len(row) < 8]
        for _ in range(60):
            n = random.randint(1, 4)
            row = [1, random.randint(1, n)]
            while len(row) < 6:
                row.append(max(0, grown(row[-1], len(row) - 1) - random.choice((0, 0, 1, 2, 5))))
            found.append((n, tuple(row)))
        return found

    def test_what_is_left_over(self):
        for n, row in self.rows():
            value = first_words(n, row)
            with self.subTest(n=n, row=row):
                self.assertIsNone(breach(value))
                self.assertEqual(kept(self, first_words, n, list(row)), value)
                for degree, entry in enumerate(row):
                    self.assertEqual(left_over(value, degree), tuple(of_degree(n, degree)[:entry]))
                self.assertTrue(all(sum(g) < len(row) for g in value[1]))
                self.assertEqual(value, first_by_definition(n, row))

    def test_strongly_stable(self):
        for n, row in self.rows():
            _, generators = first_words(n, row)
            for g in generators:
                for m, j in combinations(range(n), 2):
                    if g[j]:
                        moved = [x - (k == j) + (k == m) for k, x in enumerate(g)]
                        self.assertTrue(lies(generators, moved))


class WordErrorTests(unittest.TestCase):

    def test_broken_rows(self):
        for n, row, place in BROKEN:
            error_raised(self, NotGrowth, {"place": place}, first_words, n, row)
            error_raised(self, NotGrowth, {"place": place}, first_words, n, list(row))

    def test_too_many_of_a_degree(self):
        five = {"limit": 5000}
        for n, degree in ((3, 39), (4, 29), (8, 7), (7, 8), (10, 5), (12, 5)):
            row = [comb(k + n - 1, n - 1) for k in range(degree + 1)]
            self.assertEqual(first_words(n, row), (n, ()))
        for n, degree in ((4, 30), (8, 8), (7, 9), (10, 6), (12, 6)):
            row = [comb(k + n - 1, n - 1) for k in range(degree + 1)]
            error_raised(self, TooMany, five, first_words, n, row)
            error_raised(self, TooMany, five, first_words, n, [0] * (degree + 1))
            error_raised(self, TooMany, five, first_words, n, [1] * (degree + 1))

    def test_too_many_generators(self):
        sixty = first_words(12, (1, 12, 18))
        self.assertEqual(len(sixty[1]), 60)
        self.assertEqual(sixty[1], tuple(of_degree(12, 2)[18:]))
        error_raised(self, TooMany, {"limit": 60}, first_words, 12, (1, 12, 17))
        error_raised(self, TooMany, {"limit": 60}, first_words, 12, (1, 12, 0))
        self.assertEqual(len(first_words(2, tuple(range(1, 40)) + (0,))[1]), 40)
        # Sixty in degree 3, and one more in degree 4.
        self.assertEqual(len(first_words(8, (1, 8, 36, 60, 131))[1]), 60)
        error_raised(self, TooMany, {"limit": 60}, first_words, 8, (1, 8, 36, 60, 130))

    def test_several_at_once(self):
        bad = [comb(k + 11, 11) for k in range(6)] + [comb(17, 11) + 1]
        error_raised(self, NotGrowth, {"place": 6}, first_words, 12, bad)
        error_raised(self, NotGrowth, {"place": 0}, first_words, 12, [2] * 40)
        error_raised(self, TooMany, {"limit": 5000}, first_words, 12, (1, 12, 0, 0, 0, 0, 0))
        error_raised(self, TooMany, {"limit": 60}, first_words, 12, (1, 12, 0, 0, 0, 0))
        error_raised(self, NotGrowth, {"place": 2}, first_words, 12, (1, 0, 1) + (0,) * 37)


class LikeTests(unittest.TestCase):

    def test_by_hand(self):
        self.assertEqual(twice(self, first_words_like, CORNER, 4), (2, ((0, 3), (1, 1), (2, 0))))
        self.assertEqual(first_words_like((2, ((1, 1),)), 3), (2, ((2, 0),)))
        self.assertEqual(first_words_like((2, ((1, 1),)), 1), (2, ()))
        self.assertEqual(first_words_like((2, ((1, 1),)), 0), (2, ()))
        self.assertEqual(first_words_like((1, ((39,),)), 39), (1, ((39,),)))
        self.assertEqual(first_words_like((1, ((39,),)), 38), (1, ()))
        triangle = (3, ((0, 1, 1), (1, 0, 1), (1, 1, 0)))
        self.assertEqual(first_words_like(triangle, 4), (3, ((0, 3, 0), (1, 0, 1), (1, 1, 0), (2, 0, 0))))

    def test_zero_ideal_and_whole_ring(self):
        for n in (1, 8):
            for top in (0, 1, 5):
                self.assertEqual(first_words_like((n, ()), top), (n, ()))
                self.assertEqual(first_words_like((n, ((0,) * n,)), top), (n, ((0,) * n,)))
        self.assertEqual(first_words_like((2, ()), 39), (2, ()))

    def tried(self):
        """Proper ideals."""
        found = all_ideals(2, 2) + all_ideals(3, 1) + all_ideals(3, 2)[5::150]
        found += [ideal(4, [m for m in of_degree(4, 2) if max(m) == 1][:k]) for k in range(1, 6)]
        return [value for value in found if (0,) * value[0] not in value[1]]

    def test_the_numbers_of_the_ideal(self):
        for value in self.tried():
            for top in (1, 3, 6):
                row = [count_left(value, degree) for degree in range(top + 1)]
                self.assertEqual(first_words_like(value, top), first_words(value[0], row))

    def test_no_fewer_needs_than_any_ideal_with_these_numbers(self):
        compared = 0
        for value in self.tried():
            like = first_words_like(value, 12)
            if len(like[1]) > 10 or left_polynomial(like) != left_polynomial(value):
                continue
            if max(settled_from(like), settled_from(value)) > 13:
                continue
            compared += 1
            most = by_degrees(needs_of_steps(like, ahead_of_last))
            for prime in (0, 2):
                for place, number in by_degrees(needs_by_cuts(value, prime)).items():
                    self.assertGreaterEqual(most.get(place, 0), number)
        self.assertGreater(compared, 40)

    def test_errors(self):
        small_wanted(self, first_words_like, 0)
        small_wanted(self, first_words_like, 39)
        self.assertEqual(first_words_like((8, ()), 7), (8, ()))
        for value in ((8, ()), (8, ((0,) * 8,)), (8, ((1,) * 8,))):
            error_raised(self, TooMany, {"limit": 5000}, first_words_like, value, 8)
        # The greatest ideal of such numbers has 2 generators of degree 2, and many of greater degrees.
        powers = squarefree(8, (0, 1), (2, 3), (4, 5), (6, 7))
        error_raised(self, TooMany, {"limit": 60}, first_words_like, powers, 7)
        error_raised(self, TooMany, {"limit": 5000}, first_words_like, powers, 8)

    def test_small_just_so(self):
        steps = (2, stair(9))
        self.assertEqual(first_words_like(steps, 39), steps)
        eight = (8, tuple(variable(8, k) for k in range(7, -1, -1)))
        self.assertEqual(first_words_like(eight, 7), eight)
        self.assertEqual(first_words_like(ideal(8, placed(8, (6, 7), stair(5))), 3), (8, ()))


def by_degrees(needs):
    """The sums of the needs of each step and degree."""
    sums = {}
    for i, m, number in needs:
        sums[(i, sum(m))] = sums.get((i, sum(m)), 0) + number
    return sums


if __name__ == "__main__":
    unittest.main()
