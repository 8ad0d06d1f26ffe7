"""Ideals that rise by one monomial after another: [35] to [37]."""

import unittest
from itertools import permutations
from random import Random

from jointneeds.counts import numerator
from jointneeds.errors import NotProper, NothingLeft, TooMany
from jointneeds.ideals import check_ideal, ideal_of
from jointneeds.listings import quotient_listing
from jointneeds.needs import common_multiples, needs_by_cuts
from jointneeds.operations import colon_by, sum_of
from jointneeds.rising import Rising, rising_totals, tight_listing

from tests.boxes import (
    CORNER, FLAT, PLANE, all_ideals, error_raised, ideal, is_plain, lies, placed, plus, small_wanted, squarefree, stair,
    twice, variable,
)

PRIMES = (0, 2, 3, 5, 7)

# Eight variables, and 129 common multiples.
MORE = ideal(8, [(0, 0, 0, 1, 2, 1, 0, 0), (0, 0, 1, 0, 1, 0, 0, 2), (0, 1, 2, 0, 0, 0, 1, 2),
                 (0, 2, 0, 2, 1, 0, 0, 0), (0, 2, 1, 0, 0, 0, 1, 0), (1, 0, 0, 0, 0, 0, 2, 1),
                 (1, 0, 1, 0, 0, 1, 0, 2), (2, 0, 0, 0, 1, 0, 0, 0)])

FIVE = (3, ((0, 0, 2), (0, 1, 1), (0, 3, 0), (1, 1, 0), (2, 0, 1)))

# Ideals whose generators are tight only in few sequences, and a ring of five edges, in none.
LATE = (5, ((0, 2, 2, 0, 2), (1, 0, 0, 2, 0), (2, 0, 1, 1, 1), (2, 2, 0, 1, 0), (2, 2, 2, 0, 0)))
LATER = (6, ((0, 0, 0, 2, 1, 1), (0, 0, 2, 0, 0, 2), (0, 1, 2, 0, 0, 0), (2, 0, 1, 1, 0, 1), (2, 0, 2, 0, 0, 1)))
NEVER = squarefree(5, (0, 1), (1, 2), (2, 3), (3, 4), (0, 4))


def risen(n, prime, monomials):
    """An object to which monomials are added."""
    found = Rising(n, prime)
    for monomial in monomials:
        found.add(monomial)
    return found


def all_of(rising):
    """Everything that an object tells."""
    return (rising.ideal, rising.added(), rising.running_numerator(), rising.cone(), rising.is_tight())


def cone_by_hand(n, prime, monomials):
    """The cone, made of the needs of the cuts."""
    sums = {(0, (0,) * n): 1}
    ahead = (n, ())
    for g in monomials:
        if lies(ahead[1], g):
            continue
        for i, m, number in needs_by_cuts(colon_by(ahead, g), prime):
            sums[(i + 1, plus(g, m))] = sums.get((i + 1, plus(g, m)), 0) + number
        ahead = sum_of(ahead, (n, (g,)))
    return tuple(sorted((i, m, number) for (i, m), number in sums.items()))


def total(numbers):
    """The total of a list of triples."""
    return sum(number for _, _, number in numbers)


def sequences():
    """Numbers of variables and monomials to be added, some of which lie in what is there or divide it."""
    random = Random(35)
    found = []
    for _ in range(40):
        n = random.randint(1, 4)
        monomials = [tuple(random.randint(0, 3) for _ in range(n)) for _ in range(6)]
        found.append((n, [m for m in monomials if any(m)]))
    found.append((3, [(3, 3, 3), (2, 2, 2), (1, 1, 1), (0, 0, 1), (0, 0, 2), (0, 1, 0), (0, 1, 0), (1, 0, 0)]))
    found.append((2, [(k, 9 - k) for k in range(10)] + [(0, 1), (5, 0), (3, 0)]))
    return found


def few_generators():
    """Proper ideals with at most five generators."""
    random = Random(37)
    found = all_ideals(2, 2) + all_ideals(3, 1)
    for _ in range(25):
        n = random.randint(2, 5)
        monomials = [tuple(random.choice((0, random.randint(0, 2))) for _ in range(n)) for _ in range(5)]
        found.append(ideal_of(n, [m for m in monomials if any(m)]))
    found += [CORNER, FIVE, LATE, LATER, NEVER, squarefree(6, (0, 1), (2, 3), (4, 5), (0, 5))]
    return [value for value in found if (0,) * value[0] not in value[1] and len(value[1]) <= 5]


def first_tight(value, prime):
    """The first listing whose cone is the list of needs, or None."""
    n, generators = value
    needs = needs_by_cuts(value, prime)
    for listing in permutations(range(len(generators))):
        if cone_by_hand(n, prime, [generators[k] for k in listing]) == needs:
            return listing
    return None


class AddTests(unittest.TestCase):

    def test_nothing_added(self):
        for n in (1, 3, 8):
            for prime in PRIMES:
                rising = Rising(n, prime)
                self.assertEqual(rising.ideal, (n, ()))
                self.assertEqual(rising.added(), ())
                self.assertEqual(rising.running_numerator(), (((0,) * n, 1),))
                self.assertEqual(rising.cone(), ((0, (0,) * n, 1),))
                self.assertIs(rising.is_tight(), True)

    def test_by_hand(self):
        rising = Rising(2, 0)
        self.assertEqual(rising.add((2, 0)), (2, ()))
        self.assertEqual(rising.ideal, (2, ((2, 0),)))
        self.assertEqual(rising.add((1, 1)), (2, ((1, 0),)))
        self.assertEqual(rising.ideal, (2, ((1, 1), (2, 0))))
        # It lies in the ideal already.
        self.assertIsNone(rising.add((1, 1)))
        self.assertIsNone(rising.add((2, 5)))
        self.assertEqual(rising.added(), ((2, 0), (1, 1)))
        self.assertEqual(rising.add((0, 3)), (2, ((1, 0),)))
        self.assertEqual(rising.ideal, CORNER)
        # It divides two of those ahead of it.
        self.assertEqual(rising.add((0, 1)), (2, ((0, 2), (1, 0))))
        self.assertEqual(rising.ideal, (2, ((0, 1), (2, 0))))
        self.assertEqual(rising.added(), ((2, 0), (1, 1), (0, 3), (0, 1)))
        self.assertEqual(rising.add((1, 0)), (2, ((0, 1), (1, 0))))
        self.assertEqual(rising.ideal, (2, ((0, 1), (1, 0))))
        self.assertIsNone(rising.add((60, 60)))

    def test_against_sums_and_colons(self):
        for n, monomials in sequences():
            rising = Rising(n, 2)
            came = []
            for monomial in monomials:
                before = rising.ideal
                cut = rising.add(monomial)
                if lies(before[1], monomial):
                    self.assertIsNone(cut)
                    self.assertIs(rising.ideal, before)
                else:
                    came.append(monomial)
                    self.assertEqual(cut, colon_by(before, monomial))
                    self.assertIs(check_ideal(cut), cut)
                    self.assertEqual(rising.ideal, sum_of(before, (n, (monomial,))))
                self.assertEqual(rising.added(), tuple(came))
                self.assertIs(check_ideal(rising.ideal), rising.ideal)

    def test_great_exponents(self):
        rising = Rising(8, 3)
        self.assertEqual(rising.add((60,) * 8), (8, ()))
        self.assertEqual(rising.add((60,) * 7 + (0,)), (8, ((0,) * 7 + (60,),)))
        self.assertEqual(rising.ideal, (8, ((60,) * 7 + (0,),)))

    def test_the_monomial_1(self):
        for n in (1, 2, 8):
            for monomials in ([], [(1,) * n], [(2,) + (0,) * (n - 1), (1,) + (0,) * (n - 1)]):
                rising = risen(n, 0, monomials)
                before = all_of(rising)
                error_raised(self, NotProper, {}, rising.add, (0,) * n)
                self.assertEqual(all_of(rising), before)

    def test_ten_generators(self):
        steps = stair(10)
        rising = risen(2, 0, steps[:10])
        self.assertEqual(len(rising.ideal[1]), 10)
        before = all_of(rising)
        error_raised(self, TooMany, {"limit": 10}, rising.add, steps[10])
        error_raised(self, TooMany, {"limit": 10}, rising.add, (60, 0))
        self.assertEqual(all_of(rising), before)
        # 1 is no proper ideal, however many generators there are; what lies in the ideal changes nothing.
        error_raised(self, NotProper, {}, rising.add, (0, 0))
        self.assertIsNone(rising.add((3, 8)))
        self.assertEqual(all_of(rising), before)
        # One that divides another one leaves their number as it is, and then there is room for one more.
        self.assertEqual(rising.add((9, 0)), colon_by(before[0], (9, 0)))
        self.assertEqual(rising.ideal, (2, ((0, 10), (1, 9), (2, 8), (3, 7), (4, 6), (5, 5), (6, 4), (7, 3), (8, 2),
                                            (9, 0))))
        rising.add((7, 2))
        self.assertEqual(len(rising.ideal[1]), 9)
        rising.add((8, 1))
        self.assertEqual(len(rising.ideal[1]), 10)

    def test_many_added_though_few_are_left(self):
        rising = risen(1, 0, [(k,) for k in range(60, 0, -1)])
        self.assertEqual(rising.ideal, (1, ((1,),)))
        self.assertEqual(rising.added(), tuple((k,) for k in range(60, 0, -1)))
        for k in range(1, 61):
            self.assertEqual(rising.take_back(), (k,))
        self.assertEqual(rising.ideal, (1, ()))


class TakeBackTests(unittest.TestCase):

    def test_nothing_left(self):
        rising = Rising(3, 2)
        error_raised(self, NothingLeft, {}, rising.take_back)
        rising.add((1, 0, 0))
        self.assertEqual(rising.take_back(), (1, 0, 0))
        before = all_of(rising)
        error_raised(self, NothingLeft, {}, rising.take_back)
        error_raised(self, NothingLeft, {}, rising.take_back)
        self.assertEqual(all_of(rising), before)
        self.assertEqual(before, all_of(Rising(3, 2)))

    def test_everything_is_as_before(self):
        for n, monomials in sequences():
            rising = Rising(n, 3)
            stages = []
            for monomial in monomials:
                stage = all_of(rising)
                if rising.add(monomial) is not None:
                    stages.append((stage, monomial))
            for stage, monomial in reversed(stages):
                self.assertEqual(rising.take_back(), monomial)
                self.assertEqual(all_of(rising), stage)
            error_raised(self, NothingLeft, {}, rising.take_back)

    def test_adding_again(self):
        rising = risen(3, 0, FIVE[1])
        for _ in range(5):
            rising.take_back()
        for monomial in reversed(FIVE[1]):
            rising.add(monomial)
        self.assertEqual(all_of(rising), all_of(risen(3, 0, FIVE[1][::-1])))

    def test_what_lay_in_the_ideal_is_not_taken_back(self):
        rising = risen(2, 0, [(1, 0), (2, 0), (1, 1), (0, 1), (5, 5)])
        self.assertEqual(rising.take_back(), (0, 1))
        self.assertEqual(rising.take_back(), (1, 0))
        error_raised(self, NothingLeft, {}, rising.take_back)

    def test_one_that_divides_earlier_ones(self):
        rising = risen(2, 0, [(0, 3), (2, 2), (3, 0), (0, 1)])
        self.assertEqual(rising.ideal, (2, ((0, 1), (3, 0))))
        self.assertEqual(rising.take_back(), (0, 1))
        self.assertEqual(rising.ideal, (2, ((0, 3), (2, 2), (3, 0))))


class RestTests(unittest.TestCase):

    def test_neither_changes_with_the_other(self):
        for n, monomials in sequences():
            first = risen(n, 2, monomials[:3])
            second = first.rest()
            self.assertIs(type(second), Rising)
            self.assertIsNot(first, second)
            before = all_of(first)
            self.assertEqual(all_of(second), before)
            for monomial in monomials[3:]:
                second.add(monomial)
            self.assertEqual(all_of(first), before)
            after = all_of(second)
            for _ in before[1]:
                first.take_back()
            self.assertEqual(all_of(first), all_of(Rising(n, 2)))
            self.assertEqual(all_of(second), after)
            self.assertEqual(after, all_of(risen(n, 2, monomials)))

    def test_the_first_one_changes(self):
        first = risen(3, 0, FIVE[1][:2])
        second = first.rest()
        before = all_of(second)
        first.add(FIVE[1][2])
        first.take_back()
        first.take_back()
        first.add((1, 1, 1))
        self.assertEqual(all_of(second), before)
        self.assertEqual(second.take_back(), FIVE[1][1])
        self.assertEqual(second.take_back(), FIVE[1][0])
        error_raised(self, NothingLeft, {}, second.take_back)
        self.assertEqual(first.added(), (FIVE[1][0], (1, 1, 1)))

    def test_of_one_that_nothing_was_added_to(self):
        first = Rising(2, 5)
        second = first.rest()
        first.add((1, 0))
        self.assertEqual(all_of(second), all_of(Rising(2, 5)))
        error_raised(self, NothingLeft, {}, second.take_back)


def plane_generators():
    """The generators of the ideal of the projective plane, whose needs hang on the prime."""
    return [tuple(int(k not in facet) for k in range(6)) for facet in PLANE]


class NumeratorTests(unittest.TestCase):

    def test_behind_every_step(self):
        for n, monomials in sequences():
            rising = Rising(n, 0)
            sums = {(0,) * n: 1}
            for monomial in monomials:
                cut = rising.add(monomial)
                if cut is not None:
                    for m, number in numerator(cut):
                        place = plus(m, monomial)
                        sums[place] = sums.get(place, 0) - number
                expected = tuple(sorted((m, number) for m, number in sums.items() if number))
                self.assertEqual(rising.running_numerator(), expected)
                self.assertEqual(rising.running_numerator(), numerator(rising.ideal))

    def test_the_cone_has_it_with_turning_signs(self):
        for n, monomials in sequences():
            rising = risen(n, 2, monomials)
            sums = {}
            for i, m, number in rising.cone():
                sums[m] = sums.get(m, 0) + (-1) ** i * number
            self.assertEqual(tuple(sorted((m, number) for m, number in sums.items() if number)),
                             rising.running_numerator())


class ConeTests(unittest.TestCase):

    def test_by_hand(self):
        rising = risen(2, 0, [(2, 0), (1, 1), (0, 3)])
        expected = ((0, (0, 0), 1), (1, (0, 3), 1), (1, (1, 1), 1), (1, (2, 0), 1), (2, (1, 3), 1), (2, (2, 1), 1))
        self.assertEqual(rising.cone(), expected)
        self.assertIs(rising.is_tight(), True)
        # The middle one last: its cut has two generators, and there is one triple too much at steps 2 and 3.
        rising = risen(2, 0, [(2, 0), (0, 3), (1, 1)])
        expected = ((0, (0, 0), 1), (1, (0, 3), 1), (1, (1, 1), 1), (1, (2, 0), 1), (2, (1, 3), 1), (2, (2, 1), 1),
                    (2, (2, 3), 1), (3, (2, 3), 1))
        self.assertEqual(rising.cone(), expected)
        self.assertIs(rising.is_tight(), False)
        # Twice the same place.
        rising = risen(3, 7, [(0, 1, 1), (1, 0, 1), (1, 1, 0)])
        expected = ((0, (0, 0, 0), 1), (1, (0, 1, 1), 1), (1, (1, 0, 1), 1), (1, (1, 1, 0), 1), (2, (1, 1, 1), 2))
        self.assertEqual(rising.cone(), expected)
        # Those that a later one divides stay in the cone.
        rising = risen(1, 0, [(3,), (1,)])
        self.assertEqual(rising.cone(), ((0, (0,), 1), (1, (1,), 1), (1, (3,), 1), (2, (3,), 1)))
        self.assertIs(rising.is_tight(), False)

    def test_the_needs_of_the_cuts(self):
        for n, monomials in sequences():
            for prime in (0, 2):
                rising = risen(n, prime, monomials)
                self.assertEqual(rising.cone(), cone_by_hand(n, prime, monomials))
                self.assertEqual(rising.cone(), rising.cone())
                self.assertTrue(is_plain(rising.cone()))

    def test_not_less_than_the_needs(self):
        kinds = {}
        for n, monomials in sequences():
            for prime in (0, 3):
                rising = Rising(n, prime)
                for monomial in monomials:
                    rising.add(monomial)
                    cone = {(i, m): number for i, m, number in rising.cone()}
                    needs = {(i, m): number for i, m, number in needs_by_cuts(rising.ideal, prime)}
                    self.assertTrue(all(cone.get(place, 0) >= needs[place] for place in needs))
                    self.assertIs(rising.is_tight(), cone == needs)
                    kinds[cone == needs] = kinds.get(cone == needs, 0) + 1
        self.assertGreater(min(kinds.values()), 20)

    def test_the_prime_counts(self):
        """The cone has as many numbers over every prime, and the ideal has as many needs only over 2."""
        for prime in PRIMES:
            rising = risen(8, prime, FLAT[1][::-1])
            self.assertEqual(rising.ideal, FLAT)
            self.assertEqual(rising.cone(), cone_by_hand(8, prime, FLAT[1][::-1]))
            self.assertEqual(total(rising.cone()), 34)
            self.assertIs(rising.is_tight(), prime == 2)
            self.assertIs(rising.rest().is_tight(), prime == 2)

    def test_the_prime_counts_in_a_cut(self):
        """The last cut is the ideal of the projective plane."""
        last = variable(7, 6)
        monomials = [plus(last, g + (0,)) for g in plane_generators()] + [last]
        for prime in PRIMES:
            rising = risen(7, prime, monomials)
            self.assertEqual(rising.cone(), cone_by_hand(7, prime, monomials))
            self.assertEqual(rising.rest().cone(), rising.cone())
            self.assertEqual(len([need for need in rising.cone() if need[:2] == (5, (1,) * 7)]), int(prime == 2))

    def test_a_quotient_listing_is_tight(self):
        compared = 0
        for value in few_generators():
            listing = quotient_listing(value)
            if listing is not None:
                compared += 1
                for prime in (0, 2):
                    rising = risen(value[0], prime, [value[1][k] for k in listing])
                    self.assertIs(rising.is_tight(), True)
                    self.assertEqual(rising.cone(), needs_by_cuts(value, prime))
        self.assertGreater(compared, 30)


class ConeErrorTests(unittest.TestCase):

    def test_128_common_multiples_of_a_cut(self):
        """The cut is made of seven variables, and then of eight."""
        many = {"limit": 128}
        for n, fine in ((7, True), (8, False)):
            last = (1,) * n
            firsts = [plus(last, variable(n, k)) for k in range(n)]
            rising = risen(n, 2, firsts)
            self.assertIsNotNone(rising.cone())
            self.assertEqual(rising.add(last), ideal(n, [variable(n, k) for k in range(n)]))
            self.assertEqual(rising.ideal, (n, (last,)))
            if fine:
                self.assertEqual(total(rising.cone()), total(cone_by_hand(n, 2, firsts + [last])))
                self.assertIs(rising.is_tight(), False)
            else:
                error_raised(self, TooMany, many, rising.cone)
                error_raised(self, TooMany, many, rising.is_tight)
                self.assertEqual(rising.running_numerator(), numerator((n, (last,))))
                # With it taken back, all is as before.
                self.assertEqual(rising.take_back(), last)
                self.assertEqual(rising.cone(), cone_by_hand(n, 2, firsts))

    def test_128_common_multiples_of_the_ideal(self):
        """The cuts have fewer than the ideal: only is_tight raises the error."""
        self.assertEqual(len(common_multiples(MORE)), 129)
        rising = risen(8, 0, MORE[1])
        self.assertEqual(rising.ideal, MORE)
        self.assertEqual(rising.cone(), cone_by_hand(8, 0, MORE[1]))
        error_raised(self, TooMany, {"limit": 128}, rising.is_tight)
        rising.take_back()
        self.assertIs(type(rising.is_tight()), bool)

    def test_eight_variables(self):
        rising = risen(8, 0, [variable(8, k) for k in range(8)])
        self.assertEqual(total(rising.cone()), 256)
        error_raised(self, TooMany, {"limit": 128}, rising.is_tight)


class TotalTests(unittest.TestCase):

    def test_by_hand(self):
        self.assertEqual(twice(self, rising_totals, (1, ()), 0), (1,))
        self.assertEqual(rising_totals((8, ()), 7), (1,))
        self.assertEqual(rising_totals((1, ((60,),)), 0), (2,))
        self.assertEqual(rising_totals((2, ((0, 1), (1, 0))), 2), (4,))
        self.assertEqual(twice(self, rising_totals, CORNER, 0), (6, 8))
        self.assertEqual(rising_totals((2, stair(3)), 0), (8, 10, 12))
        self.assertEqual(rising_totals(squarefree(3, (0, 1), (0, 2), (1, 2)), 3), (6,))
        self.assertEqual(rising_totals(ideal(8, [variable(8, k) for k in range(5)]), 0), (32,))

    def test_all_sequences(self):
        several = 0
        for value in few_generators():
            for prime in (0, 2):
                totals = {total(cone_by_hand(value[0], prime, lot)) for lot in permutations(value[1])}
                self.assertEqual(rising_totals(value, prime), tuple(sorted(totals)))
                several += len(totals) > 2
        self.assertGreater(several, 10)

    def test_the_least_total_and_the_needs(self):
        for value in few_generators():
            needs = total(needs_by_cuts(value, 2))
            self.assertGreaterEqual(rising_totals(value, 2)[0], needs)
            self.assertEqual(rising_totals(value, 2)[0] == needs, tight_listing(value, 2) is not None)

    def test_errors(self):
        for call in (rising_totals, tight_listing):
            with self.subTest(call.__name__):
                small_wanted(self, call, 0)
                small_wanted(self, call, 2)
                for value in ((2, stair(5)), (2, stair(9)), ideal(8, placed(8, (0, 7), stair(5))),
                              (8, tuple(variable(8, k) for k in range(7, -1, -1)))):
                    error_raised(self, TooMany, {"limit": 5}, call, value, 3)
                self.assertIsNotNone(call((2, stair(4)), 3))


class TightTests(unittest.TestCase):

    def test_by_hand(self):
        self.assertEqual(twice(self, tight_listing, (1, ()), 0), ())
        self.assertEqual(tight_listing((8, ()), 5), ())
        self.assertEqual(tight_listing((1, ((60,),)), 0), (0,))
        self.assertEqual(twice(self, tight_listing, CORNER, 0), (0, 1, 2))
        self.assertEqual(tight_listing((2, stair(4)), 2), (0, 1, 2, 3, 4))
        self.assertEqual(tight_listing(ideal(8, [variable(8, k) for k in range(5)]), 0), (0, 1, 2, 3, 4))
        self.assertEqual(tight_listing(LATE, 0), (0, 4, 3, 1, 2))
        self.assertEqual(tight_listing(LATER, 0), (0, 3, 4, 1, 2))
        self.assertIsNone(tight_listing(NEVER, 0))

    def test_all_listings(self):
        late, nothing = 0, 0
        for value in few_generators():
            for prime in (0, 2):
                expected = first_tight(value, prime)
                self.assertEqual(tight_listing(value, prime), expected)
                late += expected is not None and expected != tuple(range(len(value[1])))
                nothing += expected is None
        self.assertGreater(late, 3)
        self.assertGreater(nothing, 1)


if __name__ == "__main__":
    unittest.main()
