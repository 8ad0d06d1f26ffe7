"""Maps from one resolution to another one: [20]."""

import unittest
from itertools import product

from jointneeds.lifts import is_lifted, lifted
from jointneeds.resolutions import least_resolution, lots_resolution, resolution_breach

from tests.boxes import (
    LEAST, LOTS, LikeNothing, combined, dense, is_plain, six_at_most, squarefree, start, twice, under,
)

PRIMES = (2, 3, 5, 7)

TRIANGLE = squarefree(3, (0, 1), (0, 2), (1, 2))
START = (((0, 1),),)
EACH = (((0, 1),), ((1, 1),), ((2, 1),))
# The maps from LEAST to LOTS over 3, with a column that is free, and back.
UP = (START, EACH, (((0, 2),), ((2, 2),)))
DOWN = (START, EACH, (((0, 2),), ((0, 2), (1, 2)), ((1, 2),)), ((),))

# In place of a column of degree (1, 3) over level 1 of LEAST.
NO_COLUMNS = [
    None, 0, True, "", "ab", [], [(0, 1)], {}, {0: 1}, LikeNothing(), (0, 1), (None,), (0,), ((),), ((0,),),
    ((0, 1, 2),), ([0, 1],), ("01",), ((0, 1), None), ((-1, 1),), ((3, 1),), ((False, 1),), ((0.0, 1),), (("0", 1),),
    ((None, 1),), ((0, 0),), ((0, 3),), ((0, 4),), ((0, -1),), ((0, -2),), ((0, True),), ((0, 1.0),), ((0, "1"),),
    ((0, None),), ((0, 2), (0, 2)), ((0, 1), (1, 0)), ((1, 0), (0, 1)),
]


def is_lift(first, second, prime, maps):
    """Whether maps of the right form are a lift, by whole matrices."""
    full = []
    for place, columns in enumerate(maps):
        theirs = second[place][0] if place < len(second) else ()
        for degree, column in zip(first[place][0], columns):
            if not all(under(theirs[r], degree) for r, _ in column):
                return False
        full.append(dense(columns, len(theirs)))
    if full[0] != [[1]]:
        return False
    for place in range(1, len(first)):
        lower = len(second[place - 1][0]) if place <= len(second) else 0
        down_first = combined(dense(first[place][1], len(first[place - 1][0])), full[place - 1], prime)
        theirs = dense(second[place][1], lower) if place < len(second) else []
        over_first = combined(full[place], theirs, prime) if theirs else [[0] * lower for _ in full[place]]
        if down_first != over_first:
            return False
    return True


def check_form(test, first, second, prime, maps):
    """Check that a value is a tuple of columns as it has to be."""
    test.assertTrue(is_plain(maps))
    test.assertEqual(len(maps), len(first))
    for place, columns in enumerate(maps):
        test.assertEqual(len(columns), len(first[place][0]))
        theirs = second[place][0] if place < len(second) else ()
        for column in columns:
            rows = [r for r, _ in column]
            test.assertEqual(rows, sorted(set(rows)))
            test.assertTrue(all(0 <= r < len(theirs) for r in rows))
            test.assertTrue(all(type(c) is int and 1 <= c < prime for _, c in column))


def longer(levels, prime):
    """A resolution with two levels more, which do nothing for the ideal."""
    n = len(levels[0][0][0])
    degree = (1,) * n
    place = len(levels)
    own = ((degree, degree), ((), ()))
    pairs = ((degree, degree), (((0, 1), (1, prime - 1)), ((1, 1),)))
    return levels[:place] + (own, pairs)


class LiftedTests(unittest.TestCase):

    def check(self, first, second, prime):
        """Check what is returned for two resolutions of an ideal."""
        maps = twice(self, lifted, first, second, prime)
        check_form(self, first, second, prime, maps)
        self.assertTrue(is_lift(first, second, prime, maps), (first, second, prime, maps))
        self.assertIs(twice(self, is_lifted, first, second, prime, maps), True)
        return maps

    def test_by_hand(self):
        self.assertEqual(self.check(LEAST, LEAST, 3), (START, EACH, (((0, 1),), ((1, 1),))))
        self.assertEqual(self.check(LOTS, LEAST, 3), DOWN)
        self.assertEqual(self.check((start(1),), (start(1),), 2), (START,))
        one, other = (start(1), (((5,),), (((0, 2),),))), (start(1), (((5,),), (((0, 3),),)))
        self.assertEqual(self.check(one, other, 5), (START, (((0, 4),),)))
        self.assertEqual(self.check(other, one, 5), (START, (((0, 4),),)))
        self.check(LEAST, LOTS, 3)

    def test_there_and_back(self):
        for value in six_at_most():
            for prime in PRIMES:
                lots, least = lots_resolution(value, prime), least_resolution(value, prime)
                for first in (lots, least):
                    for second in (lots, least):
                        self.check(first, second, prime)

    def test_levels_that_the_other_one_does_not_have(self):
        for value in six_at_most():
            if len(value[1]) > 4:
                continue
            for prime in (2, 5):
                short = least_resolution(value, prime)
                lots = lots_resolution(value, prime)
                for levels in (longer(short, prime), longer(lots, prime)):
                    self.assertIsNone(resolution_breach(value, prime, levels))
                    maps = self.check(levels, short, prime)
                    for columns in maps[len(short):]:
                        self.assertTrue(all(column == () for column in columns))
                    self.assertEqual(len(self.check(short, levels, prime)), len(short))
                    self.check(levels, lots, prime)
                    self.check(levels, levels, prime)

    def test_bases_in_other_sequences(self):
        """Level 1 in another sequence and with other coefficients."""
        turned = (
            start(2),
            (((2, 0), (0, 3), (1, 1)), (((0, 1),), ((0, 2),), ((0, 1),))),
            (((2, 1), (1, 3)), (((0, 2), (2, 1)), ((1, 1), (2, 1)))),
        )
        maps = self.check(LEAST, turned, 3)
        self.assertEqual(maps[1], (((1, 2),), ((2, 1),), ((0, 1),)))
        maps = self.check(turned, LEAST, 3)
        self.assertEqual(maps[1], (((2, 1),), ((0, 2),), ((1, 1),)))
        self.check(turned, LOTS, 3)
        self.check(LOTS, turned, 3)

    def test_degrees_that_do_not_divide_are_left_out(self):
        """Level 1 of the second one has a multiple of the generator ahead of it."""
        first = (start(1), (((2,),), (((0, 1),),)))
        second = (start(1), (((3,), (2,)), (((0, 1),), ((0, 1),))), (((3,),), (((0, 1), (1, 4)),)))
        self.assertIsNone(resolution_breach((1, ((2,),)), 5, second))
        self.assertEqual(self.check(first, second, 5), (START, (((1, 1),),)))
        self.check(second, first, 5)
        self.check(second, second, 5)


class IsLiftedTests(unittest.TestCase):

    def refuse(self, first, second, prime, value):
        """Check that a value is judged to be no such maps."""
        with self.subTest(value):
            self.assertIs(is_lifted(first, second, prime, value), False)

    def test_by_hand(self):
        same = (START, EACH, (((0, 1),), ((1, 1),)))
        self.assertIs(is_lifted(LEAST, LEAST, 3, same), True)
        self.assertIs(is_lifted(LEAST, LOTS, 3, UP), True)
        self.assertIs(is_lifted(LOTS, LEAST, 3, DOWN), True)
        self.assertIs(is_lifted(LOTS, LOTS, 3, (START, EACH, EACH, (((0, 1),),))), True)
        self.assertIs(is_lifted((start(1),), (start(1),), 3, (START,)), True)
        self.refuse(LOTS, LEAST, 3, UP)
        self.refuse(LEAST, LOTS, 3, DOWN)
        self.refuse(LEAST, LOTS, 3, same)

    def test_values_of_any_kind(self):
        for value in (None, True, False, 0, 1, "", "abc", b"abc", [], {}, (), LikeNothing(), list(UP),
                      dict(enumerate(UP)), UP[:2], UP + ((),), UP + (((),),), (None,) * 3, (0, 1, 2), ("", "", ""),
                      ((), (), ()), [[], [], []]):
            self.refuse(LEAST, LOTS, 3, value)
            self.refuse((start(1),), (start(1),), 3, value)

    def test_maps_of_any_kind(self):
        for over in (None, True, 0, "", "ab", [], {}, LikeNothing(), (), ((),), ((), (), ()), (None, None), (0, 1),
                     [((0, 2),), ((2, 2),)], UP[2][:1], UP[2] + ((),), ((), ((2, 2),)), (((0, 2),), ())):
            self.refuse(LEAST, LOTS, 3, UP[:2] + (over,))
        for over in (None, True, 0, "", "abc", [], list(EACH), (), EACH[:2], EACH + ((),), EACH[::-1], ((), (), ())):
            self.refuse(LEAST, LOTS, 3, (START, over, UP[2]))

    def test_columns_of_any_kind(self):
        for column in NO_COLUMNS:
            self.refuse(LEAST, LOTS, 3, UP[:2] + ((column, ((2, 2),)),))
            self.refuse(LEAST, LOTS, 3, (START, (column,) + EACH[1:], UP[2]))
            self.refuse(LOTS, LEAST, 3, DOWN[:3] + ((column if column != () else None,),))

    def test_the_first_map(self):
        for first in ((((0, 2),),), ((),), (), (((0, 1),), ()), ((0, 1),), (((0, True),),), (((False, 1),),),
                      ([(0, 1)],), [((0, 1),)], (((0, 1.0),),), (((0.0, 1),),), (([0, 1],),), (((0, 1), (0, 1)),),
                      None, 1, (None,)):
            self.refuse(LEAST, LOTS, 3, (first,) + UP[1:])
            self.refuse((start(2),), (start(2),), 3, (first,))
        # All maps twice as great agree with one another.
        twice_as_great = tuple(tuple(tuple((r, 3 - c) for r, c in column) for column in over) for over in UP)
        self.refuse(LEAST, LOTS, 3, twice_as_great)

    def test_a_degree_that_does_not_divide(self):
        """What goes down to the same at a greater degree does not count."""
        first = (start(1), (((2,),), (((0, 1),),)))
        second = (start(1), (((2,), (3,)), (((0, 1),), ((0, 1),))), (((3,),), (((0, 1), (1, 4)),)))
        self.assertIs(is_lifted(first, second, 5, (START, (((0, 1),),))), True)
        self.refuse(first, second, 5, (START, (((1, 1),),)))
        self.refuse(first, second, 5, (START, (((0, 2), (1, 4)),)))

    def test_levels_that_the_other_one_does_not_have(self):
        short = (start(1),)
        levels = short + ((((2,), (3,)), ((), ())), (((2,), (3,)), (((0, 1),), ((1, 1),))))
        self.assertIsNone(resolution_breach((1, ()), 3, levels))
        self.assertIs(is_lifted(levels, short, 3, (START, ((), ()), ((), ()))), True)
        self.assertIs(is_lifted(short, levels, 3, (START,)), True)
        for over in (((),), (), ((), (), ()), (((0, 1),), ()), ([], ()), (None, None)):
            self.refuse(levels, short, 3, (START, over, ((), ())))
            self.refuse(levels, short, 3, (START, ((), ()), over))
        self.refuse(levels, short, 3, (START,))
        self.refuse(levels, short, 3, (START, ((), ())))
        self.refuse(short, levels, 3, (START, ((), ()), ((), ())))

    def test_all_columns_of_a_place(self):
        """Of all maps from level 2 of the resolution by lots to itself just those that a lift may have."""
        levels = lots_resolution(TRIANGLE, 2)
        columns = [tuple((r, 1) for r in range(3) if choice[r]) for choice in product((0, 1), repeat=3)]
        found = 0
        for over in product(columns, repeat=3):
            for last in ((), ((0, 1),)):
                value = (START, EACH, over, (last,))
                expected = is_lift(levels, levels, 2, value)
                self.assertIs(is_lifted(levels, levels, 2, value), expected)
                found += expected
        # To each column the image of level 3 may be added.
        self.assertEqual(found, 8)

    def test_all_maps_to_the_first_level(self):
        first = (start(1), (((2,), (3,)), (((0, 1),), ((0, 2),))), (((3,),), (((0, 1), (1, 1)),)))
        self.assertIsNone(resolution_breach((1, ((2,),)), 3, first))
        columns = [tuple((r, c) for r, c in enumerate(choice) if c) for choice in product(range(3), repeat=2)]
        for over in product(columns, repeat=2):
            for last in ((), ((0, 1),), ((0, 2),)):
                value = (START, over, (last,))
                self.assertIs(is_lifted(first, first, 3, value), is_lift(first, first, 3, value))

    def test_other_coefficients(self):
        for value in six_at_most():
            prime = 3
            lots, least = lots_resolution(value, prime), least_resolution(value, prime)
            maps = lifted(lots, least, prime)
            for place, over in enumerate(maps):
                for j, column in enumerate(over):
                    for k, (r, coefficient) in enumerate(column):
                        other = column[:k] + ((r, 3 - coefficient),) + column[k + 1:]
                        wrong = maps[:place] + (over[:j] + (other,) + over[j + 1:],) + maps[place + 1:]
                        self.assertIs(is_lifted(lots, least, prime, wrong), is_lift(lots, least, prime, wrong))


if __name__ == "__main__":
    unittest.main()
