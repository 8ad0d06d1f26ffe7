"""What the document promises over the whole program: [2], and which of several errors is raised."""

import importlib
import unittest

from jointneeds import errors
from jointneeds.errors import (
    JointError, NotBelow, NotCycle, NotGrowth, NotIdeal, NotListing, NotProper, NotResolution, NotStable, NotTwo,
    TooGreat, TooMany,
)
from jointneeds.rising import Rising

from tests.boxes import (
    CORNER, LEAST, LOTS, PLANE, LikeNothing, error_raised, ideal, is_plain, kept, placed, stair, variable,
)
from tests.test_interface import INTERFACE

TRIANGLE = (3, ((0, 1, 1), (1, 0, 1), (1, 1, 0)))
STABLE = (2, ((0, 3), (1, 1), (2, 0)))
RING = (4, ((0, 1), (0, 3), (1, 2), (2, 3)))
EDGES = ((0, 1), (0, 2), (1, 2))
CYCLE = (((0, 1), 1), ((0, 2), 2), ((1, 2), 1))
LIFT = ((((0, 1),),), (((0, 1),), ((1, 1),), ((2, 1),)), (((0, 1),), ((1, 1),)))

# For each function of the interface some arguments; those that may be lists are lists.
CALLS = {
    "monomials": {
        "degree_of": [((1, 2, 3),)], "support_of": [((0, 2, 3),)], "divides": [((0, 1), (1, 1))],
        "lcm_of": [((0, 2), (1, 1))], "gcd_of": [((0, 2), (1, 1))], "times": [((0, 2), (1, 1))],
        "cut": [((0, 2), (1, 1))],
    },
    "ideals": {
        "breach": [(CORNER,), ([2, [[0, 1]]],), ((2, ((1, 0), (0, 1))),)],
        "check_ideal": [(CORNER,)],
        "ideal_of": [(2, [(1, 1), (0, 3), (5, 5), (2, 0)]), (2, ())],
        "contains": [(CORNER, (4, 0))], "is_within": [(CORNER, (2, ((0, 1), (1, 0))))],
    },
    "operations": {
        "sum_of": [(CORNER, (2, ((1, 0),)))], "product_of": [(CORNER, CORNER)], "meet_of": [(CORNER, (2, ((1, 0),)))],
        "power_of": [(CORNER, 3), (CORNER, 0)], "colon_by": [(CORNER, (1, 0))],
        "colon_of": [(CORNER, (2, ((0, 1), (1, 0))))], "saturated": [(CORNER, 0)], "radical_of": [(CORNER,)],
        "permuted": [(CORNER, (1, 0))],
    },
    "texts": {"written": [(CORNER,), ((3, ()),)], "read_ideal": [("2: x1^3, x0*x1, x0^2",), ("3:",)]},
    "components": {
        "components": [(CORNER,)], "ideal_of_components": [(2, [(1, 3), (2, 1)]), (2, ())], "primes": [(TRIANGLE,)],
        "minimal_primes": [(TRIANGLE,)], "primary_parts": [((2, ((1, 1), (2, 0))),)], "dimension": [(TRIANGLE,)],
    },
    "duals": {"dual_of": [(CORNER, (2, 3))], "broken_up": [(CORNER,)]},
    "complexes": {
        "check_complex": [(3, EDGES)], "facets_of": [(3, [(0, 1), (2,), (0,)])], "faces_of": [(EDGES, 1)],
        "link": [(EDGES, (0,))], "without": [(EDGES, 1)], "restricted": [(EDGES, [0, 2])],
        "dual_complex": [(4, EDGES)],
        "ideal_of_complex": [(4, EDGES)], "complex_of_ideal": [(TRIANGLE,)],
    },
    "holes": {
        "holes": [(EDGES, 0), (PLANE, 2)], "boundary": [((((0, 1), 1), ((1, 2), 2)), 3)], "is_cycle": [(CYCLE, 3)],
        "filling": [(EDGES, CYCLE, 3), (((0, 1, 2),), CYCLE, 3)],
        "counter": [(EDGES, CYCLE, 3), (((0, 1, 2),), CYCLE, 3)],
    },
    "needs": {
        "common_multiples": [(CORNER,)], "needs_by_cuts": [(CORNER, 0)], "needs_by_duals": [(CORNER, 2)],
        "needs_by_lots": [(CORNER, 3)], "needs_by_multiples": [(CORNER, 5)], "needs_by_restrictions": [(CORNER, 7)],
    },
    "resolutions": {
        "resolution_breach": [(CORNER, 3, LOTS), (CORNER, 3, [LOTS])], "check_resolution": [(CORNER, 3, LEAST)],
        "lots_resolution": [(CORNER, 3)], "is_least": [(LOTS,), (LEAST,)], "trimmed": [(LOTS, 3)],
        "least_resolution": [(CORNER, 3)], "needs_of": [(LOTS,)],
    },
    "lifts": {"lifted": [(LOTS, LEAST, 3)], "is_lifted": [(LEAST, LEAST, 3, LIFT), (LEAST, LEAST, 3, [LIFT])]},
    "counts": {
        "numerator": [(CORNER,)], "numerator_by_splitting": [(CORNER,)], "signs": [(CORNER,)],
        "left_over": [(TRIANGLE, 3)], "count_left": [(TRIANGLE, 10**6)], "graded_numerator": [(CORNER,)],
        "left_polynomial": [(TRIANGLE,)], "settled_from": [(CORNER,)], "multiplicity": [(CORNER,), (TRIANGLE,)],
    },
    "growth": {
        "binomial_row": [(11, 3)], "grown": [(11, 3)], "growth_breach": [(3, [1, 3, 4]), (3, [1, 3, 7])],
        "first_words": [(3, [1, 3, 4, 4])], "first_words_like": [(TRIANGLE, 4)],
    },
    "shapes": {
        "length_of": [(CORNER, 0)], "depth_of": [(CORNER, 2)], "breadth_of": [(CORNER, 3)],
        "is_balanced": [(CORNER, 0)], "is_straight": [(TRIANGLE, 0)],
        "balance_breach": [(((0, 1), (2, 3)), 0), (EDGES, 0)],
    },
    "listings": {
        "quotient_breach": [(CORNER, (1, 2, 0)), (CORNER, (0, 1, 2))], "quotient_listing": [(CORNER,)],
        "needs_by_quotients": [(CORNER, (1, 2, 0))], "shelling_breach": [(EDGES, (2, 0, 1))],
        "shelling": [(EDGES,)],
    },
    "stable": {
        "stable_breach": [(STABLE,), (TRIANGLE,)], "strong_breach": [(STABLE,), (TRIANGLE,)],
        "stable_hull": [(3, [(0, 1, 1), (0, 0, 3), (0, 1, 1)])], "needs_by_steps": [(STABLE,)],
    },
    "graphs": {
        "check_graph": [(RING,)], "edge_ideal": [(RING,)], "cover_ideal": [(RING,)], "complement": [(RING,)],
        "ring_paper": [(RING,), ((3, EDGES),)],
        "is_ring_paper": [(RING, ("ring", (0, 1, 2, 3))), (RING, ["ring", [0, 1, 2, 3]])],
        "two_sides": [(RING,), ((3, EDGES),)], "least_cover": [(RING,)], "greatest_matching": [(RING,)],
    },
    "stairs": {"stairs": [(CORNER,)], "closed_up": [(CORNER,)], "hull_corners": [(CORNER,)]},
    "rising": {"rising_totals": [(CORNER, 0)], "tight_listing": [(CORNER, 0)]},
}

# Calls that break several conditions, and the error that is raised.
NINE = ideal(9, placed(9, (0, 1), stair(10)))
ELEVEN = (2, stair(10))
EIGHT = (8, tuple(variable(8, k) for k in range(7, -1, -1)))
SEVERAL = [
    (TooMany, {"limit": 60}, "ideals", "ideal_of", (2, [(k, 61 - k) for k in range(62)])),
    (TooGreat, {"limit": 60}, "operations", "product_of", ((1, ((60,),)), (1, ((1,),)))),
    (TooMany, {"limit": 60}, "operations", "power_of", ((2, stair(59)), 3)),
    (NotIdeal, {"rule": "monomial", "place": 1}, "ideals", "check_ideal", ((2, ((1, 0), (0, 61), (1, 0))),)),
    (TooMany, {"limit": 8}, "duals", "dual_of", (NINE, (0,) * 9)),
    (TooMany, {"limit": 10}, "duals", "dual_of", (ELEVEN, (0, 0))),
    (NotBelow, {"place": 0}, "duals", "dual_of", (CORNER, (0, 0))),
    (TooMany, {"limit": 300}, "holes", "filling", ((tuple(range(9)),), (((0,), 1), ((9,), 1)), 3)),
    (NotCycle, {}, "holes", "counter", ((tuple(range(8)),), (((0, 1), 1),), 3)),
    (TooMany, {"limit": 8}, "needs", "needs_by_lots", ((9, tuple(variable(9, k) for k in range(8, -1, -1))), 0)),
    (TooMany, {"limit": 10}, "needs", "needs_by_multiples", (ELEVEN, 0)),
    (TooMany, {"limit": 128}, "needs", "needs_by_multiples", (EIGHT, 0)),
    (TooMany, {"limit": 8}, "resolutions", "check_resolution", (NINE, 3, None)),
    (TooMany, {"limit": 10}, "resolutions", "check_resolution", (ELEVEN, 3, None)),
    (NotResolution, {"rule": "form", "place": -1}, "resolutions", "check_resolution", (EIGHT, 3, None)),
    (TooMany, {"limit": 8}, "resolutions", "lots_resolution", (NINE, 3)),
    (TooMany, {"limit": 10}, "resolutions", "least_resolution", (ELEVEN, 3)),
    (TooMany, {"limit": 8}, "counts", "count_left", (NINE, 0)),
    (TooMany, {"limit": 5000}, "counts", "left_over", (NINE, 9)),
    (TooMany, {"limit": 8}, "growth", "first_words_like", (NINE, 39)),
    (TooMany, {"limit": 10}, "growth", "first_words_like", (ELEVEN, 39)),
    (TooMany, {"limit": 5000}, "growth", "first_words_like", (EIGHT, 39)),
    (NotGrowth, {"place": 1}, "growth", "first_words", (12, [1, 13] + [0] * 38)),
    (TooMany, {"limit": 5000}, "growth", "first_words", (12, [1, 12] + [0] * 38)),
    (TooMany, {"limit": 8}, "shapes", "is_straight", (NINE, 0)),
    (TooMany, {"limit": 10}, "shapes", "is_balanced", (ELEVEN, 0)),
    (TooMany, {"limit": 128}, "shapes", "is_balanced", (EIGHT, 0)),
    (NotListing, {"place": 1}, "listings", "needs_by_quotients", (CORNER, (0, 1, 2))),
    (TooMany, {"limit": 60}, "stable", "stable_hull", (2, [(60, 60)])),
    (NotStable, {}, "stable", "needs_by_steps", (ideal(9, placed(9, (7, 8), stair(10))),)),
    (NotTwo, {}, "stairs", "closed_up", (ideal(3, placed(3, (0, 1), [(0, 60), (60, 0)])),)),
    (TooMany, {"limit": 8}, "rising", "rising_totals", (NINE, 0)),
    (TooMany, {"limit": 10}, "rising", "tight_listing", (ELEVEN, 0)),
    (TooMany, {"limit": 5}, "rising", "tight_listing", (EIGHT, 0)),
]


def function(file, name):
    """A function of the interface."""
    return getattr(importlib.import_module(f"jointneeds.{file}"), name)


class WholeTests(unittest.TestCase):

    def test_every_function_is_called(self):
        for file, names in INTERFACE.items():
            self.assertEqual(sorted(CALLS[file]), sorted(names))
        self.assertEqual(sorted(CALLS), sorted(INTERFACE))

    def test_arguments_are_not_changed_and_values_are_plain(self):
        for file, calls in CALLS.items():
            for name, samples in calls.items():
                for arguments in samples:
                    with self.subTest(file=file, name=name, arguments=arguments):
                        found = kept(self, function(file, name), *arguments)
                        self.assertTrue(is_plain(found), found)
                        self.assertEqual(function(file, name)(*arguments), found)

    def test_the_first_of_several_errors(self):
        for error, told, file, name, arguments in SEVERAL:
            with self.subTest(file=file, name=name):
                error_raised(self, error, told, function(file, name), *arguments)

    def test_what_takes_any_value(self):
        values = [None, True, 0, -1, "", "x", b"", 1.5, (), [], {}, set(), LikeNothing(), (1,), (1, 2, 3), ((), ()),
                  (2, None), (2, (None,)), (2, ((0, 1), None)), ((0, 1), (1, 0)), ("ring", None), [[]], ([],)]
        for value in values:
            with self.subTest(repr(value)):
                self.assertIsNotNone(function("ideals", "breach")(value))
                for file, name, arguments in (
                    ("ideals", "check_ideal", (value,)), ("graphs", "check_graph", (value,)),
                    ("complexes", "check_complex", (value, value)), ("complexes", "check_complex", (3, [value])),
                    ("resolutions", "check_resolution", (CORNER, 3, value)),
                ):
                    with self.assertRaises(JointError):
                        function(file, name)(*arguments)
                self.assertIs(function("lifts", "is_lifted")(LEAST, LEAST, 3, value), False)
                self.assertIs(function("graphs", "is_ring_paper")(RING, value), False)

    def test_errors(self):
        for name, thing in vars(errors).items():
            if isinstance(thing, type) and thing is not JointError:
                self.assertEqual(thing.__bases__, (JointError,), name)
        self.assertEqual(JointError.__bases__, (ValueError,))


class RisingValueTests(unittest.TestCase):

    def test_values_are_plain(self):
        rising = Rising(2, 3)
        for monomial in ((2, 0), (1, 1), (1, 1), (0, 3)):
            self.assertTrue(is_plain(rising.add(monomial)))
        for call in (rising.added, rising.running_numerator, rising.cone, rising.is_tight):
            self.assertTrue(is_plain(call()))
            self.assertEqual(call(), call())
        self.assertTrue(is_plain(rising.ideal))
        self.assertTrue(is_plain(rising.take_back()))
        self.assertIs(type(rising.rest()), Rising)

    def test_the_first_of_several_errors(self):
        rising = Rising(2, 0)
        for monomial in stair(9):
            rising.add(monomial)
        error_raised(self, NotProper, {}, rising.add, (0, 0))


if __name__ == "__main__":
    unittest.main()
