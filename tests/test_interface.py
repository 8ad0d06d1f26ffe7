"""The names and arguments that the document's interface lists."""

import importlib
import inspect
import unittest

INTERFACE = {
    "monomials": {
        "degree_of": ["monomial"],
        "support_of": ["monomial"],
        "divides": ["a", "b"],
        "lcm_of": ["a", "b"],
        "gcd_of": ["a", "b"],
        "times": ["a", "b"],
        "cut": ["a", "b"],
    },
    "ideals": {
        "breach": ["value"],
        "check_ideal": ["value"],
        "ideal_of": ["n", "monomials"],
        "contains": ["ideal", "monomial"],
        "is_within": ["a", "b"],
    },
    "operations": {
        "sum_of": ["a", "b"],
        "product_of": ["a", "b"],
        "meet_of": ["a", "b"],
        "power_of": ["ideal", "k"],
        "colon_by": ["ideal", "monomial"],
        "colon_of": ["a", "b"],
        "saturated": ["ideal", "variable"],
        "radical_of": ["ideal"],
        "permuted": ["ideal", "listing"],
    },
    "texts": {
        "written": ["ideal"],
        "read_ideal": ["text"],
    },
    "components": {
        "components": ["ideal"],
        "ideal_of_components": ["n", "parts"],
        "primes": ["ideal"],
        "minimal_primes": ["ideal"],
        "primary_parts": ["ideal"],
        "dimension": ["ideal"],
    },
    "duals": {
        "dual_of": ["ideal", "c"],
        "broken_up": ["ideal"],
    },
    "complexes": {
        "check_complex": ["v", "facets"],
        "facets_of": ["v", "faces"],
        "faces_of": ["facets", "count"],
        "link": ["facets", "face"],
        "without": ["facets", "vertex"],
        "restricted": ["facets", "vertices"],
        "dual_complex": ["v", "facets"],
        "ideal_of_complex": ["v", "facets"],
        "complex_of_ideal": ["ideal"],
    },
    "holes": {
        "holes": ["facets", "prime"],
        "boundary": ["chain", "prime"],
        "is_cycle": ["chain", "prime"],
        "filling": ["facets", "chain", "prime"],
        "counter": ["facets", "chain", "prime"],
    },
    "needs": {
        "common_multiples": ["ideal"],
        "needs_by_cuts": ["ideal", "prime"],
        "needs_by_duals": ["ideal", "prime"],
        "needs_by_lots": ["ideal", "prime"],
        "needs_by_multiples": ["ideal", "prime"],
        "needs_by_restrictions": ["ideal", "prime"],
    },
    "resolutions": {
        "resolution_breach": ["ideal", "prime", "value"],
        "check_resolution": ["ideal", "prime", "value"],
        "lots_resolution": ["ideal", "prime"],
        "is_least": ["levels"],
        "trimmed": ["levels", "prime"],
        "least_resolution": ["ideal", "prime"],
        "needs_of": ["levels"],
    },
    "lifts": {
        "lifted": ["first", "second", "prime"],
        "is_lifted": ["first", "second", "prime", "value"],
    },
    "counts": {
        "numerator": ["ideal"],
        "numerator_by_splitting": ["ideal"],
        "signs": ["ideal"],
        "left_over": ["ideal", "degree"],
        "count_left": ["ideal", "degree"],
        "graded_numerator": ["ideal"],
        "left_polynomial": ["ideal"],
        "settled_from": ["ideal"],
        "multiplicity": ["ideal"],
    },
    "growth": {
        "binomial_row": ["a", "d"],
        "grown": ["a", "d"],
        "growth_breach": ["n", "row"],
        "first_words": ["n", "row"],
        "first_words_like": ["ideal", "top"],
    },
    "shapes": {
        "length_of": ["ideal", "prime"],
        "depth_of": ["ideal", "prime"],
        "breadth_of": ["ideal", "prime"],
        "is_balanced": ["ideal", "prime"],
        "is_straight": ["ideal", "prime"],
        "balance_breach": ["facets", "prime"],
    },
    "listings": {
        "quotient_breach": ["ideal", "listing"],
        "quotient_listing": ["ideal"],
        "needs_by_quotients": ["ideal", "listing"],
        "shelling_breach": ["facets", "listing"],
        "shelling": ["facets"],
    },
    "stable": {
        "stable_breach": ["ideal"],
        "strong_breach": ["ideal"],
        "stable_hull": ["n", "monomials"],
        "needs_by_steps": ["ideal"],
    },
    "graphs": {
        "check_graph": ["value"],
        "edge_ideal": ["graph"],
        "cover_ideal": ["graph"],
        "complement": ["graph"],
        "ring_paper": ["graph"],
        "is_ring_paper": ["graph", "value"],
        "two_sides": ["graph"],
        "least_cover": ["graph"],
        "greatest_matching": ["graph"],
    },
    "stairs": {
        "stairs": ["ideal"],
        "closed_up": ["ideal"],
        "hull_corners": ["ideal"],
    },
    "rising": {
        "rising_totals": ["ideal", "prime"],
        "tight_listing": ["ideal", "prime"],
    },
}


RISING = {
    "__init__": ["self", "n", "prime"],
    "add": ["self", "monomial"],
    "added": ["self"],
    "take_back": ["self"],
    "rest": ["self"],
    "running_numerator": ["self"],
    "cone": ["self"],
    "is_tight": ["self"],
}


class InterfaceTests(unittest.TestCase):

    def test_functions_are_defined_in_their_files(self):
        for file, functions in INTERFACE.items():
            module = importlib.import_module(f"jointneeds.{file}")
            for name, parameters in functions.items():
                with self.subTest(file=file, name=name):
                    function = getattr(module, name)
                    self.assertTrue(inspect.isfunction(function))
                    self.assertEqual(function.__module__, f"jointneeds.{file}")
                    self.assertEqual(list(inspect.signature(function).parameters), parameters)

    def test_the_class(self):
        thing = importlib.import_module("jointneeds.rising").Rising
        self.assertTrue(inspect.isclass(thing))
        self.assertEqual(thing.__module__, "jointneeds.rising")
        self.assertEqual(thing(3, 2).ideal, (3, ()))
        for name, parameters in RISING.items():
            with self.subTest(name):
                method = vars(thing)[name]
                self.assertTrue(inspect.isfunction(method))
                self.assertEqual(list(inspect.signature(method).parameters), parameters)


if __name__ == "__main__":
    unittest.main()
