"""Resolutions: what they are, and how they are made: [17], [18] and [19]."""

import unittest
from itertools import combinations, product
from random import Random

from jointneeds.errors import NotResolution, TooMany
from jointneeds.needs import needs_by_cuts
from jointneeds.resolutions import (
    check_resolution, is_least, least_resolution, lots_resolution, needs_of, resolution_breach, trimmed,
)

from tests.boxes import (
    CORNER, FLAT_PLANE, LEAST, LOTS, LikeNothing, combined, dense, error_raised, ideal, is_plain, lcm, placed, resolves,
    six_at_most, squarefree, stair, start, twice, under, variable,
)

PRIMES = (2, 3, 5, 7)


def with_level(levels, place, level):
    """Levels with another one at a place."""
    return levels[:place] + (level,) + levels[place + 1:]


def with_column(levels, place, j, column):
    """Levels with another column number j at a place."""
    degrees, columns = levels[place]
    return with_level(levels, place, (degrees, columns[:j] + (column,) + columns[j + 1:]))


def with_degree(levels, place, j, degree):
    """Levels with another degree number j at a place."""
    degrees, columns = levels[place]
    return with_level(levels, place, (degrees[:j] + (degree,) + degrees[j + 1:], columns))


def pairs_of(degrees, prime):
    """Two levels of the same degrees, of which the second one goes to the first one, and this one to 0."""
    many = len(degrees)
    return ((tuple(degrees), ((),) * many), (tuple(degrees), tuple(((k, prime - 1),) for k in range(many))))


def padded(n, degrees, prime):
    """A resolution of the zero ideal with two levels of the same degrees."""
    return (start(n),) + pairs_of(degrees, prime)


def long_one(many):
    """Levels of an ideal in one variable, of which all but two do nothing: so many levels."""
    levels = [start(1), (((1,),), (((0, 1),),))]
    for k in range(2, many):
        # Each pair of levels has a basis element that the second one takes to the first one's.
        levels.append((((1,),), ((),) if k % 2 == 0 else (((0, 1),),)))
    return tuple(levels)


NO_TUPLES = [
    None, True, 0, 3, "", "ab", b"", [], {}, set(), range(2), LikeNothing(), list(LEAST), dict(enumerate(LEAST)), (),
    LEAST[:1] * 11, long_one(11), (None,) * 11, (1, 2) * 10,
]

NO_LEVELS = [
    None, True, 1, "", "ab", b"ab", [], (), {}, LikeNothing(), ((),), ((), (), ()), [(), ()], ([], []), (None, None),
    ((), None), (None, ()), ("", ""), ("a", "b"), (0, 0), ({}, {}),
]

NO_DEGREES = [
    None, 0, 3, "", "ab", [1, 3], (), (1,), (1, 3, 0), (1, -1), (-1, 3), (1, 61), (61, 3), (True, 3), (1, False),
    (1.0, 3), (1, None), ("1", 3), ((1, 3),), {0: 1, 1: 3}, LikeNothing(),
]

# In place of a column of degree (1, 3) over the degrees (0, 3), (1, 1), (2, 0), over 3.
NO_COLUMNS = [
    None, 0, True, "", "ab", [], [(0, 1)], {}, {0: 1}, LikeNothing(), (0, 1), (None,), (0,), ((),), ((0,),),
    ((0, 1, 2),), ([0, 1],), ("01",), ({0: 1},), ((0, 1), None), ((0, 1), [1, 2]), ((0, 1), (1,)),
    # Numbers of basis elements.
    ((-1, 1),), ((3, 1),), ((0, 1), (3, 1)), ((60, 1),), ((True, 1),), ((False, 1),), ((0, 1), (True, 2)),
    ((None, 1),), (("0", 1),), ((0.0, 1),), (((0,), 1),),
    # Coefficients.
    ((0, 0),), ((0, 3),), ((0, 4),), ((0, -1),), ((0, 1), (1, 0)), ((0, 1), (1, 3)), ((0, True),), ((0, False),),
    ((0, 1), (1, True)), ((0, 1.0),), ((0, "1"),), ((0, None),), ((0, (1,)),),
    # Sequence.
    ((1, 2), (0, 1)), ((0, 1), (0, 1)), ((0, 1), (0, 2)), ((0, 1), (1, 1), (1, 1)), ((1, 1), (1, 1)),
    # A degree that does not divide (1, 3).
    ((2, 1),), ((0, 1), (2, 2)), ((1, 1), (2, 2)), ((0, 1), (1, 2), (2, 1)),
]


class GoodTests(unittest.TestCase):

    def test_by_hand(self):
        good = [
            (CORNER, 3, LEAST),
            (CORNER, 3, LOTS),
            ((1, ()), 2, (start(1),)),
            ((8, ()), 7, (start(8),)),
            ((1, ((60,),)), 2, (start(1), (((60,),), (((0, 1),),)))),
            ((1, ((60,),)), 7, (start(1), (((60,),), (((0, 6),),)))),
            ((2, ((2, 1),)), 5, (start(2), (((2, 1),), (((0, 3),),)))),
            # More basis elements than needed: a multiple of the generator, and what it comes of.
            ((1, ((2,),)), 5, (start(1), (((2,), (3,)), (((0, 1),), ((0, 2),))), (((3,),), (((0, 2), (1, 4)),)))),
        ]
        for value, prime, levels in good:
            with self.subTest(levels):
                self.assertTrue(resolves(value, prime, levels))
                self.assertIsNone(twice(self, resolution_breach, value, prime, levels))
                self.assertIs(check_resolution(value, prime, levels), levels)

    def test_any_sequence_of_the_basis(self):
        levels = (
            start(2),
            (((2, 0), (0, 3), (1, 1)), (((0, 1),), ((0, 2),), ((0, 1),))),
            (((2, 1), (1, 3)), (((0, 2), (2, 1)), ((1, 1), (2, 1)))),
        )
        self.assertTrue(resolves(CORNER, 3, levels))
        self.assertIsNone(resolution_breach(CORNER, 3, levels))

    def test_up_to_ten_levels_and_sixty_in_each(self):
        for many in (2, 4, 6, 8, 10):
            self.assertIsNone(resolution_breach((1, ((1,),)), 2, long_one(many)))
        for prime in (2, 7):
            self.assertIsNone(resolution_breach((1, ()), prime, padded(1, [(k,) for k in range(1, 61)], prime)))
            self.assertIsNone(resolution_breach((1, ()), prime, padded(1, [(5,)] * 60, prime)))

    def test_every_other_prime(self):
        """The same levels are a resolution over one prime and none over another one."""
        for prime in PRIMES:
            minus = prime - 1
            levels = with_column(with_column(LEAST, 2, 0, ((0, 1), (1, minus))), 2, 1, ((1, 1), (2, minus)))
            self.assertIsNone(resolution_breach(CORNER, prime, levels))
            if prime > 2:
                # With 1 and 1 two steps come to 2.
                wrong = with_column(levels, 2, 0, ((0, 1), (1, 1)))
                self.assertEqual(resolution_breach(CORNER, prime, wrong), ("square", 2))
        # The determinant of ((1, 1), (1, 4)) is 3; that of ((1, 2), (2, 2)) is -2.
        pair = ((2,), (2,))
        for prime, columns, expected in ((5, (((0, 1), (1, 1)), ((0, 1), (1, 4))), None),
                                         (7, (((0, 1), (1, 1)), ((0, 1), (1, 4))), None),
                                         (3, (((0, 1), (1, 1)), ((0, 1), (1, 1))), ("filled", 1)),
                                         (3, (((0, 1), (1, 2)), ((0, 2), (1, 2))), None),
                                         (3, (((0, 1), (1, 2)), ((0, 2), (1, 1))), ("filled", 1)),
                                         (5, (((0, 1), (1, 2)), ((0, 2), (1, 1))), None)):
            levels = (start(1), (pair, ((), ())), (pair, columns))
            self.assertEqual(resolution_breach((1, ()), prime, levels), expected)


class BreachCase(unittest.TestCase):

    def check(self, value, prime, levels, rule, place):
        """Check what is told of a value that is no resolution."""
        with self.subTest(levels):
            self.assertEqual(resolution_breach(value, prime, levels), (rule, place))
            error_raised(self, NotResolution, {"rule": rule, "place": place}, check_resolution, value, prime, levels)


class FormTests(BreachCase):

    def test_no_tuple_of_one_to_ten(self):
        for levels in NO_TUPLES:
            self.check(CORNER, 3, levels, "form", -1)

    def test_no_levels(self):
        for level in NO_LEVELS:
            for place in range(3):
                self.check(CORNER, 3, LEAST[:place] + (level,) + LEAST[place + 1:], "form", place)
            self.check(CORNER, 3, LEAST + (level,), "form", 3)
            self.check(CORNER, 3, (level,), "form", 0)

    def test_lists_in_place_of_tuples(self):
        for place in range(3):
            degrees, columns = LEAST[place]
            for level in ([degrees, columns], (list(degrees), columns), (degrees, list(columns))):
                self.check(CORNER, 3, LEAST[:place] + (level,) + LEAST[place + 1:], "form", place)

    def test_level_0(self):
        one = (0, 0)
        for level in (((), ()), ((one, one), ((), ())), ((one,), ()), ((), ((),)), ((one,), ((), ())),
                      (((1, 0),), ((),)), (((0, 1),), ((),)), (((0,),), ((),)), (((0, 0, 0),), ((),)),
                      (((False, 0),), ((),)), (((0, False),), ((),)), (((0.0, 0),), ((),)), ((0,), ((),)),
                      ((one,), (((0, 1),),)), ((one,), ([],)), ((one,), (None,)), ((one,), (0,)), ((one,), ("",))):
            self.check(CORNER, 3, (level,) + LEAST[1:], "form", 0)
            self.check((2, ()), 3, (level,), "form", 0)

    def test_missing_and_empty_levels(self):
        self.check(CORNER, 3, LEAST + (((), ()),), "form", 3)
        self.check(CORNER, 3, (LEAST[0], ((), ()), LEAST[2]), "form", 1)
        self.check((2, ()), 3, (start(2), ((), ())), "form", 1)
        # Without level 1 the columns of level 2 are columns over level 0.
        self.check(CORNER, 3, (LEAST[0], LEAST[2]), "form", 1)
        self.check(CORNER, 3, LEAST[1:], "form", 0)

    def test_different_lengths(self):
        for place in (1, 2):
            degrees, columns = LEAST[place]
            for level in ((degrees[:-1], columns), (degrees, columns[:-1]), (degrees, ()), ((), columns),
                          (degrees, columns + ((),)), (degrees + (degrees[0],), columns)):
                self.check(CORNER, 3, LEAST[:place] + (level,) + LEAST[place + 1:], "form", place)

    def test_sixty_and_more_in_a_level(self):
        zero = (1, ())
        self.assertIsNone(resolution_breach(zero, 2, padded(1, [(5,)] * 60, 2)))
        self.check(zero, 2, padded(1, [(5,)] * 61, 2), "form", 1)
        more = (((5,),) * 61, ((),) * 61)
        self.check(zero, 2, (start(1), (((5,),), ((),)), more), "form", 2)

    def test_degrees(self):
        for degree in NO_DEGREES:
            self.check(CORNER, 3, with_degree(LEAST, 2, 0, degree), "form", 2)
            self.check(CORNER, 3, with_degree(LEAST, 2, 1, degree), "form", 2)
            self.check(CORNER, 3, with_degree(LEAST, 1, 0, degree), "form", 1)

    def test_columns(self):
        for column in NO_COLUMNS:
            self.check(CORNER, 3, with_column(LEAST, 2, 0, column), "form", 2)
        for column in (((1, 1),), ((0, 3),), ((0, True),), ((False, 1),), ((0, 1), (0, 1)), None, (0, 1)):
            for j in range(3):
                self.check(CORNER, 3, with_column(LEAST, 1, j, column), "form", 1)

    def test_coefficients_up_to_the_prime(self):
        for prime in PRIMES:
            for coefficient in range(-1, 9):
                levels = (start(1), (((2,),), (((0, coefficient),),)))
                if 1 <= coefficient < prime:
                    self.assertIsNone(resolution_breach((1, ((2,),)), prime, levels))
                else:
                    self.check((1, ((2,),)), prime, levels, "form", 1)

    def test_the_first_level_counts(self):
        levels = with_column(with_column(LEAST, 1, 2, ((0, 3),)), 2, 0, ((0, 3),))
        self.check(CORNER, 3, levels, "form", 1)
        self.check(CORNER, 3, (None,) + levels[1:], "form", 0)
        self.check(CORNER, 3, (LEAST[0], LEAST[1], None, None), "form", 2)
        self.check(CORNER, 3, (None, None), "form", 0)

    def test_form_ahead_of_the_others(self):
        square = with_column(LOTS, 2, 0, ((0, 1), (1, 1)))
        self.check(CORNER, 3, with_column(square, 3, 0, ((0, 3),)), "form", 3)
        self.check(CORNER, 3, square[:2] + (square[2], None), "form", 3)
        self.check((2, ((0, 1),)), 3, with_column(LEAST, 2, 1, ((0, 1),)), "form", 2)


class SquareTests(BreachCase):

    def test_each_column(self):
        self.check(CORNER, 3, with_column(LEAST, 2, 0, ((0, 1), (1, 1))), "square", 2)
        self.check(CORNER, 3, with_column(LEAST, 2, 1, ((1, 2), (2, 2))), "square", 2)
        self.check(CORNER, 3, with_column(LEAST, 2, 1, ((1, 1),)), "square", 2)
        self.check(CORNER, 3, with_column(LOTS, 3, 0, ((0, 1), (1, 1), (2, 1))), "square", 3)
        self.check(CORNER, 3, with_column(LOTS, 3, 0, ((0, 1), (1, 2))), "square", 3)

    def test_the_first_level_counts(self):
        both = with_column(with_column(LOTS, 2, 0, ((0, 1), (1, 1))), 3, 0, ((1, 1),))
        self.check(CORNER, 3, both, "square", 2)

    def test_square_ahead_of_filled(self):
        self.check(CORNER, 3, with_column(LEAST, 1, 0, ()), "square", 2)
        self.check((2, ((0, 1),)), 3, with_column(LOTS, 3, 0, ((0, 1),)), "square", 3)

    def test_all_columns_of_a_place(self):
        """Of all columns at level 3 just those whose two steps come to 0 break no square."""
        lower = dense(LOTS[2][1], 3)
        for entries in product(range(3), repeat=3):
            column = tuple((r, entry) for r, entry in enumerate(entries) if entry)
            levels = with_column(LOTS, 3, 0, column)
            if any(map(any, combined([list(entries)], lower, 3))):
                self.check(CORNER, 3, levels, "square", 3)
            elif any(entries):
                self.assertIsNone(resolution_breach(CORNER, 3, levels))
            else:
                self.check(CORNER, 3, levels, "filled", 2)


class FilledTests(BreachCase):

    def test_the_image_of_level_1(self):
        zero = (start(2),)
        self.check(CORNER, 3, zero, "filled", 0)
        self.check((2, ()), 3, LEAST, "filled", 0)
        self.check((2, ((0, 3), (1, 1))), 3, LEAST, "filled", 0)
        self.check((2, ((0, 3), (1, 1), (3, 0))), 3, LEAST, "filled", 0)
        self.check((2, ((0, 2), (1, 1), (2, 0))), 3, LEAST, "filled", 0)
        self.check((2, ((0, 3), (1, 0))), 3, LEAST, "filled", 0)
        self.check((1, ((60,),)), 3, (start(1), (((59,),), (((0, 1),),))), "filled", 0)
        self.check((1, ((59,),)), 3, (start(1), (((60,),), (((0, 1),),))), "filled", 0)
        # A basis element whose column is empty adds nothing.
        self.check((1, ((2,),)), 3, (start(1), (((2,),), ((),))), "filled", 0)

    def test_the_kernel_of_each_level(self):
        self.check(CORNER, 3, LEAST[:2], "filled", 1)
        self.check(CORNER, 3, LEAST[:2] + (((LEAST[2][0][0],), (LEAST[2][1][0],)),), "filled", 1)
        self.check(CORNER, 3, LOTS[:3], "filled", 2)
        self.check(CORNER, 3, with_column(LOTS, 3, 0, ()), "filled", 2)
        self.check((1, ()), 3, (start(1), (((4,),), ((),))), "filled", 1)
        self.check((1, ()), 3, padded(1, [(4,)], 3) + ((((4,),), ((),)),), "filled", 3)
        self.check((1, ((1,),)), 2, long_one(3), "filled", 2)
        self.check((1, ((1,),)), 2, long_one(9), "filled", 8)
        # A greater degree than needed leaves a gap.
        self.check(CORNER, 3, with_degree(LEAST, 2, 0, (1, 4)), "filled", 1)
        self.check(CORNER, 3, with_degree(LEAST, 2, 1, (60, 1)), "filled", 1)
        self.check(CORNER, 3, with_degree(LOTS, 3, 0, (3, 3)), "filled", 2)

    def test_the_first_level_counts(self):
        """A level further on may fail at a lesser monomial."""
        levels = (start(1), (((5,), (5,)), (((0, 1),), ((0, 1),))), (((1,),), ((),)))
        self.check((1, ((5,),)), 2, levels, "filled", 1)
        self.check((1, ((4,),)), 2, levels, "filled", 0)
        self.check((1, ((5,),)), 2, with_degree(levels, 2, 0, (6,)), "filled", 1)
        self.check((1, ((5,),)), 2, (start(1), (((5,),), (((0, 1),),)), (((1,),), ((),))), "filled", 2)

    def test_each_level_left_out_of_products_of_variables(self):
        value = ideal(4, [variable(4, k) for k in range(4)])
        levels = lots_resolution(value, 5)
        self.assertEqual(len(levels), 5)
        for place in range(1, 5):
            self.check(value, 5, levels[:place], "filled", place - 1)
            # Without the last basis element; those that have it as an entry are left out, too.
            degrees, columns = levels[place]
            rest = levels[:place] + ((degrees[:-1], columns[:-1]),) if len(degrees) > 1 else levels[:place]
            self.check(value, 5, rest, "filled", place - 1)

    def test_some_levels(self):
        """Basis elements and entries left out at random: judged as by asking of every monomial of a box."""
        random = Random(4)
        kinds = {}
        for _ in range(300):
            prime = random.choice((2, 3))
            value = random.choice((CORNER, (2, ((0, 2), (1, 1))), (3, ((0, 1, 1), (1, 0, 1), (1, 1, 0)))))
            levels = lots_resolution(value, prime)
            for _ in range(random.randint(0, 2)):
                place = random.randrange(1, len(levels))
                j = random.randrange(len(levels[place][0]))
                if random.random() < 0.5:
                    column = tuple(entry for entry in levels[place][1][j] if random.random() < 0.5)
                    levels = with_column(levels, place, j, column)
                else:
                    degree = tuple(exponent + random.randint(0, 1) for exponent in levels[place][0][j])
                    levels = with_degree(levels, place, j, degree)
            found = resolution_breach(value, prime, levels)
            kinds[found] = True
            if found is None or found[0] == "filled":
                self.assertEqual(resolves(value, prime, levels), found is None, levels)
            if found is not None and found[0] == "square":
                self.assertFalse(resolves(value, prime, levels))
        self.assertGreater(len(kinds), 5)


class LimitTests(unittest.TestCase):

    def both(self, limit, value, prime, levels):
        """Check that both functions raise TooMany with a limit."""
        for call in (resolution_breach, check_resolution):
            error_raised(self, TooMany, {"limit": limit}, call, value, prime, levels)

    def test_small(self):
        for levels in ((start(9),), None, (), LEAST, (None,)):
            self.both(8, (9, ()), 2, levels)
            self.both(8, (9, ((1,) * 9,)), 2, levels)
            self.both(8, ideal(9, placed(9, (0, 1), stair(10))), 2, levels)
            self.both(10, (2, stair(10)), 2, levels)
            self.both(10, ideal(8, placed(8, (0, 1), stair(10))), 2, levels)

    def test_ten_generators_and_eight_variables(self):
        steps = stair(9)
        between = [lcm(pair, 2) for pair in zip(steps, steps[1:])]
        levels = (start(2), (steps, (((0, 1),),) * 10), (tuple(between), tuple(((k, 1), (k + 1, 1)) for k in range(9))))
        self.assertIsNone(resolution_breach((2, steps), 2, levels))
        self.assertIsNone(resolution_breach((8, ((1,) * 8,)), 2, (start(8), (((1,) * 8,), (((0, 1),),)))))

    def degrees(self, *many):
        """Monomials that have so many exponents at each variable, 0 counted."""
        return [tuple(1 + k % (count - 1) for count in many) for k in range(max(many) - 1)]

    def test_six_hundred_points(self):
        for many in ((10, 10, 6), (25, 24), (60, 10), (2, 3, 4, 5, 5), (50, 2, 6)):
            n = len(many)
            levels = padded(n, self.degrees(*many), 3)
            self.assertIsNone(resolution_breach((n, ()), 3, levels))
            self.assertIs(check_resolution((n, ()), 3, levels), levels)

    def test_more_than_six_hundred_points(self):
        for many in ((43, 7, 2), (11, 11, 5), (10, 10, 7), (61, 10), (26, 25), (5, 5, 5, 5), (61, 61)):
            n = len(many)
            self.both(600, (n, ()), 3, padded(n, self.degrees(*many), 3))

    def test_generators_count(self):
        """Level 1 has none of the exponents of the generators."""
        value = ideal(3, [(k, 9 - k, 1 + k % 2) for k in range(10)])
        # At the variables there are 10, 10 and 3 exponents, and then 11, 11 and 5.
        own = padded(3, [(1, 1, 1), (1, 1, 2)], 3)
        self.assertEqual(resolution_breach(value, 3, own), ("filled", 0))
        self.assertEqual(resolution_breach(value, 3, (start(3),)), ("filled", 0))
        self.both(600, value, 3, padded(3, [(10, 10, 3), (1, 1, 4)], 3))

    def test_all_levels_count(self):
        """Levels whose columns are all empty; one of them has many exponents."""
        for many in (7, 8, 9):
            for place in range(1, 10):
                levels = (start(3),) + ((((1, 1, 1),), ((),)),) * 9
                levels = with_level(levels, place, (tuple((k, k, k) for k in range(1, many + 1)), ((),) * many))
                if many == 7:
                    self.assertEqual(resolution_breach((3, ()), 3, levels), ("filled", 1))
                else:
                    self.both(600, (3, ()), 3, levels)

    def test_form_and_square_are_told_first(self):
        levels = padded(3, self.degrees(11, 11, 5), 3)
        wrong = with_column(levels, 2, 0, ((0, 3),))
        self.assertEqual(resolution_breach((3, ()), 3, wrong), ("form", 2))
        error_raised(self, NotResolution, {"rule": "form", "place": 2}, check_resolution, (3, ()), 3, wrong)
        wrong = with_column(levels, 1, 0, ((0, 1),))
        self.assertEqual(resolution_breach((3, ()), 3, wrong), ("square", 2))
        error_raised(self, NotResolution, {"rule": "square", "place": 2}, check_resolution, (3, ()), 3, wrong)
        # What is not filled is told behind the limit.
        self.both(600, (3, ()), 3, levels[:2])
        self.both(600, (3, ((1, 1, 1),)), 3, levels)


class LotsTests(unittest.TestCase):

    def test_by_hand(self):
        self.assertEqual(twice(self, lots_resolution, CORNER, 3), (
            start(2),
            (((0, 3), (1, 1), (2, 0)), (((0, 1),), ((0, 1),), ((0, 1),))),
            (((1, 3), (2, 3), (2, 1)), (((0, 2), (1, 1)), ((0, 2), (2, 1)), ((1, 2), (2, 1)))),
            (((2, 3),), (((0, 1), (1, 2), (2, 1)),)),
        ))
        self.assertEqual(lots_resolution((1, ((7,),)), 7), (start(1), (((7,),), (((0, 1),),))))
        self.assertEqual(lots_resolution((2, ((0, 1), (1, 0))), 2),
                         (start(2), (((0, 1), (1, 0)), (((0, 1),), ((0, 1),))), (((1, 1),), (((0, 1), (1, 1)),))))
        self.assertEqual(lots_resolution((2, ((0, 1), (1, 0))), 7)[2], (((1, 1),), (((0, 6), (1, 1)),)))

    def test_the_zero_ideal(self):
        for n in (1, 8):
            for prime in PRIMES:
                self.assertEqual(lots_resolution((n, ()), prime), (start(n),))

    def test_each_set_of_generators(self):
        for value in six_at_most():
            n, generators = value
            for prime in PRIMES:
                levels = twice(self, lots_resolution, value, prime)
                self.assertEqual(len(levels), len(generators) + 1)
                for i, (degrees, columns) in enumerate(levels):
                    lots = list(combinations(range(len(generators)), i))
                    lower = list(combinations(range(len(generators)), i - 1)) if i else []
                    self.assertEqual(degrees, tuple(lcm([generators[k] for k in lot], n) for lot in lots))
                    for lot, column in zip(lots, columns):
                        entries = [(lower.index(lot[:k] + lot[k + 1:]), (-1) ** k % prime) for k in range(i)]
                        self.assertEqual(column, tuple(sorted(entries)))

    def test_it_is_a_resolution(self):
        for value in six_at_most():
            for prime in (2, 5):
                self.assertIsNone(resolution_breach(value, prime, lots_resolution(value, prime)))

    def test_six_and_seven_generators(self):
        for call in (lots_resolution, least_resolution):
            for prime in PRIMES:
                self.assertEqual(len(call((2, stair(5)), prime)[1][0]), 6)
                error_raised(self, TooMany, {"limit": 6}, call, (2, stair(6)), prime)
                error_raised(self, TooMany, {"limit": 6}, call, (2, stair(9)), prime)
                error_raised(self, TooMany, {"limit": 10}, call, (2, stair(10)), prime)
                error_raised(self, TooMany, {"limit": 8}, call, (9, ()), prime)
                error_raised(self, TooMany, {"limit": 8}, call, ideal(9, placed(9, (0, 1), stair(10))), prime)
                error_raised(self, TooMany, {"limit": 8}, call, ideal(9, placed(9, (0, 1), stair(6))), prime)
        self.assertEqual(len(lots_resolution((8, tuple(variable(8, k) for k in range(5, -1, -1))), 3)), 7)


class LeastTests(unittest.TestCase):

    def assert_least(self, levels):
        """Check that no entry is between equal degrees."""
        for (lower, _), (degrees, columns) in zip(levels, levels[1:]):
            for degree, column in zip(degrees, columns):
                for r, _ in column:
                    self.assertNotEqual(lower[r], degree)

    def counts(self, levels):
        """How many basis elements levels have, by the level and the degree."""
        sums = {}
        for i, (degrees, _) in enumerate(levels):
            for degree in degrees:
                sums[i, degree] = sums.get((i, degree), 0) + 1
        return tuple((i, m, number) for (i, m), number in sorted(sums.items()))

    def test_is_least_by_hand(self):
        self.assertIs(twice(self, is_least, LEAST), True)
        self.assertIs(twice(self, is_least, LOTS), False)
        self.assertIs(is_least((start(1),)), True)
        self.assertIs(is_least(padded(1, [(3,)], 2)), False)
        self.assertIs(is_least(lots_resolution((2, ((0, 1), (1, 0))), 3)), True)
        self.assertIs(is_least(lots_resolution(squarefree(3, (0, 1), (0, 2), (1, 2)), 3)), False)
        # Equal degrees without an entry between them do no harm: level 2 has (1, 1) and (1, 1) apart.
        value = squarefree(4, (0, 1), (0, 2), (1, 3), (2, 3))
        self.assertIs(is_least(least_resolution(value, 3)), True)

    def test_equal_degrees_need_an_entry(self):
        """Level 1 and level 2 have a degree in common, but not in one column."""
        value = (2, ((0, 2), (1, 0)))
        levels = (start(2), (((0, 2), (1, 0), (1, 2)), (((0, 1),), ((0, 1),), ((0, 1),))),
                  (((1, 2), (1, 2)), (((0, 1), (1, 1)), ((1, 1), (2, 1)))))
        self.assertIsNone(resolution_breach(value, 2, levels))
        self.assertIs(is_least(levels), False)
        self.assertEqual(self.counts(trimmed(levels, 2)), needs_by_cuts(value, 2))
        apart = (start(2), (((1, 2),), ((),)), (((1, 2),), ((),)))
        self.assertIs(is_least(apart), True)

    def test_trimmed_and_least(self):
        for value in six_at_most():
            for prime in PRIMES:
                lots = lots_resolution(value, prime)
                for levels in (twice(self, trimmed, lots, prime), twice(self, least_resolution, value, prime)):
                    self.assertIsNone(resolution_breach(value, prime, levels))
                    self.assertTrue(resolves(value, prime, levels))
                    self.assert_least(levels)
                    self.assertIs(is_least(levels), True)
                    self.assertEqual(self.counts(levels), needs_by_cuts(value, prime))
                    self.assertEqual(twice(self, needs_of, levels), needs_by_cuts(value, prime))
                    self.assertTrue(all(degrees for degrees, _ in levels))

    def test_what_is_least_stays_least(self):
        for levels in (LEAST, (start(2),), (start(2), (((2, 1),), (((0, 2),),)))):
            made = trimmed(levels, 3)
            self.assertEqual(self.counts(made), self.counts(levels))
            self.assertTrue(is_plain(made))
        self.assertEqual(trimmed((start(5),), 7), (start(5),))

    def test_padded_resolutions(self):
        for prime in PRIMES:
            self.assertEqual(trimmed(padded(2, [(1, 1)] * 5, prime), prime), (start(2),))
            self.assertEqual(trimmed(padded(2, [(k, 3) for k in range(9)], prime), prime), (start(2),))
            made = trimmed(long_one(10), prime)
            self.assertEqual(self.counts(made), ((0, (0,), 1), (1, (1,), 1)))

    def mixed(self, levels, prime, random):
        """Levels with pairs of basis elements more, and with other basis elements of the same space."""
        n = len(levels[0][0][0])
        tables = [[list(degrees), dense(columns, len(levels[k - 1][0]) if k else 0)]
                  for k, (degrees, columns) in enumerate(levels)]
        for place in range(1, len(tables)):
            degree = tuple(random.randint(0, 3) for _ in range(n))
            self.put_pair(tables, place, degree, random.randrange(1, prime))
        for _ in range(12):
            self.change_basis(tables, random.randrange(1, len(tables)), prime, random)
        return tuple((tuple(degrees), tuple(tuple((r, entry) for r, entry in enumerate(row) if entry) for row in rows))
                     for degrees, rows in tables)

    def put_pair(self, tables, place, degree, coefficient):
        """Put a basis element into a level and one that goes to it behind it."""
        degrees, rows = tables[place]
        degrees.append(degree)
        rows.append([0] * len(tables[place - 1][0]))
        if place + 1 == len(tables):
            tables.append([[], []])
        upper_degrees, upper = tables[place + 1]
        for row in upper:
            row.append(0)
        upper_degrees.append(degree)
        upper.append([0] * (len(degrees) - 1) + [coefficient])
        if place + 2 < len(tables):
            for row in tables[place + 2][1]:
                row.append(0)

    def change_basis(self, tables, place, prime, random):
        """Add a multiple of a basis element to one of greater degree, and tell the level behind it so."""
        degrees, rows = tables[place]
        a, b = random.randrange(len(degrees)), random.randrange(len(degrees))
        factor = random.randrange(1, prime)
        if a == b or not under(degrees[a], degrees[b]):
            return
        rows[b] = [(y + factor * x) % prime for x, y in zip(rows[a], rows[b])]
        if place + 1 < len(tables):
            for row in tables[place + 1][1]:
                row[a] = (row[a] - factor * row[b]) % prime

    def test_mixed_resolutions(self):
        random = Random(6)
        for value in six_at_most()[::2]:
            for prime in (2, 3, 7):
                if not value[1]:
                    continue
                levels = self.mixed(lots_resolution(value, prime), prime, random)
                self.assertTrue(resolves(value, prime, levels))
                self.assertIsNone(resolution_breach(value, prime, levels))
                made = twice(self, trimmed, levels, prime)
                self.assertTrue(resolves(value, prime, made))
                self.assert_least(made)
                self.assertEqual(self.counts(made), needs_by_cuts(value, prime))

    def test_needs_of_by_hand(self):
        expected = ((0, (0, 0), 1), (1, (0, 3), 1), (1, (1, 1), 1), (1, (2, 0), 1), (2, (1, 3), 1), (2, (2, 1), 1))
        self.assertEqual(twice(self, needs_of, LEAST), expected)
        self.assertEqual(needs_of((start(1),)), ((0, (0,), 1),))
        # Of any levels the basis elements are counted.
        self.assertEqual(needs_of(padded(1, [(5,), (3,), (5,)], 2)),
                         ((0, (0,), 1), (1, (3,), 1), (1, (5,), 2), (2, (3,), 1), (2, (5,), 2)))

    def test_least_by_hand(self):
        for prime in PRIMES:
            self.assertEqual(self.counts(least_resolution(CORNER, prime)), self.counts(LEAST))
            self.assertEqual(least_resolution((8, ()), prime), (start(8),))
            one = least_resolution((2, ((2, 1),)), prime)
            self.assertEqual(self.counts(one), ((0, (0, 0), 1), (1, (2, 1), 1)))

    def test_six_generators(self):
        value = squarefree(4, *combinations(range(4), 2))
        for prime in PRIMES:
            levels = least_resolution(value, prime)
            self.assertEqual([len(degrees) for degrees, _ in levels], [1, 6, 8, 3])
            self.assertIsNone(resolution_breach(value, prime, levels))
        plane = ideal(8, [tuple(int(k not in facet) for facet in FLAT_PLANE) for k in range(6)])
        for prime in PRIMES:
            levels = least_resolution(plane, prime)
            self.assertIsNone(resolution_breach(plane, prime, levels))
            self.assertEqual(needs_of(levels), needs_by_cuts(plane, prime))


if __name__ == "__main__":
    unittest.main()
