"""The rules of an ideal: [1] and [3]."""

import unittest

from jointneeds.errors import JointError, NotIdeal
from jointneeds.ideals import breach, check_ideal

from tests.boxes import LikeNothing, all_ideals, box, is_plain, stair, under


IDEALS = [
    (1, ()),
    (12, ()),
    (1, ((0,),)),
    (1, ((60,),)),
    (2, ((0, 0),)),
    (2, ((0, 3), (1, 1), (2, 0))),
    (2, ((0, 60), (60, 0))),
    (3, ((0, 1, 1), (1, 0, 1), (1, 1, 0))),
    (12, ((0,) * 12,)),
    (12, ((60,) * 12,)),
    (12, tuple((0,) * (11 - k) + (60,) + (0,) * k for k in range(12))),
    (2, stair(59)),
]

NO_FORM = [
    None,
    True,
    3,
    "2: x0",
    "ab",
    b"ab",
    LikeNothing(),
    [],
    {},
    (),
    (2,),
    ((), 2),
    (2, (), ()),
    [2, ()],
    (2, []),
    (2, None),
    (2, "ab"),
    (2, {}),
    (2, 0),
    (2, range(0)),
    (None, ()),
    ("2", ()),
    (2.0, ()),
    ((2,), ()),
    (True, ()),
    (False, ()),
    (True, ((1,),)),
    (0, ()),
    (0, ((),)),
    (13, ()),
    (13, ((0,) * 13,)),
    (-1, ()),
    (10 ** 30, ()),
]

NO_MONOMIAL = [
    None,
    1,
    True,
    "01",
    b"01",
    [0, 1],
    {},
    LikeNothing(),
    (),
    (0,),
    (0, 1, 2),
    (0, -1),
    (-1, 0),
    (0, 61),
    (61, 0),
    (0, 10 ** 30),
    (0, True),
    (False, 1),
    (0, "1"),
    (0, None),
    (0, 1.0),
    (0, (1,)),
    ((0, 1),),
]


class FormTests(unittest.TestCase):

    def test_ideals_have_no_breach(self):
        for value in IDEALS:
            with self.subTest(value):
                self.assertIsNone(breach(value))

    def test_no_form(self):
        for value in NO_FORM:
            with self.subTest(value):
                self.assertEqual(breach(value), ("form", -1))

    def test_every_number_of_variables(self):
        for n in range(1, 13):
            self.assertIsNone(breach((n, ((1,) * n,))))


class MonomialTests(unittest.TestCase):

    def test_alone(self):
        for entry in NO_MONOMIAL:
            with self.subTest(entry):
                self.assertEqual(breach((2, (entry,))), ("monomial", 0))

    def test_behind_others_and_ahead_of_others(self):
        for entry in NO_MONOMIAL:
            with self.subTest(entry):
                self.assertEqual(breach((2, ((0, 9), entry, (9, 0)))), ("monomial", 1))
                self.assertEqual(breach((2, ((0, 9), (1, 1), (9, 0), entry))), ("monomial", 3))
                self.assertEqual(breach((2, ((0, 9), entry, entry))), ("monomial", 1))

    def test_true_in_one_variable(self):
        self.assertEqual(breach((1, ((True,),))), ("monomial", 0))
        self.assertEqual(breach((1, ((False,),))), ("monomial", 0))


class SequenceTests(unittest.TestCase):

    def test_twice(self):
        self.assertEqual(breach((2, ((0, 1), (0, 1)))), ("sequence", 1))
        self.assertEqual(breach((2, ((0, 2), (1, 1), (1, 1), (2, 0)))), ("sequence", 2))

    def test_falling(self):
        self.assertEqual(breach((2, ((1, 0), (0, 1)))), ("sequence", 1))
        self.assertEqual(breach((3, ((0, 0, 2), (0, 3, 0), (0, 2, 1), (0, 1, 1)))), ("sequence", 2))

    def test_only_the_entry_just_ahead_counts(self):
        value = (3, ((0, 2, 0), (0, 0, 2), (0, 1, 1), (2, 0, 0)))
        self.assertEqual(breach(value), ("sequence", 1))

    def test_one_that_divides_another_one_ahead_of_it(self):
        self.assertEqual(breach((2, ((1, 1), (0, 1)))), ("sequence", 1))


class LeastTests(unittest.TestCase):

    def test_one_that_divides_another_one_behind_it(self):
        self.assertEqual(breach((2, ((0, 1), (1, 1)))), ("least", 1))
        self.assertEqual(breach((2, ((0, 0), (0, 1)))), ("least", 1))
        self.assertEqual(breach((1, ((3,), (4,)))), ("least", 1))

    def test_far_apart(self):
        self.assertEqual(breach((3, ((0, 0, 4), (0, 5, 0), (1, 1, 1), (2, 0, 4)))), ("least", 3))

    def test_the_first_of_several(self):
        value = (3, ((0, 0, 4), (0, 1, 4), (0, 2, 0), (1, 2, 0)))
        self.assertEqual(breach(value), ("least", 1))

    def test_in_twelve_variables(self):
        first = (0,) * 11 + (60,)
        self.assertEqual(breach((12, (first, (60,) * 12))), ("least", 1))


class ManyTests(unittest.TestCase):

    def test_sixty_and_one_more(self):
        self.assertIsNone(breach((2, stair(59))))
        self.assertEqual(breach((2, stair(60))), ("many", 60))

    def test_far_more(self):
        entries = tuple((a, b, 20 - a - b) for a in range(21) for b in range(21 - a))
        self.assertEqual(len(entries), 231)
        self.assertEqual(breach((3, entries)), ("many", 60))


class SeveralRulesTests(unittest.TestCase):

    def test_form_ahead_of_all(self):
        self.assertEqual(breach((0, (3, 3))), ("form", -1))
        self.assertEqual(breach((True, ((True,), (True,)))), ("form", -1))
        self.assertEqual(breach((2, [(0, 61), (0, 0)])), ("form", -1))

    def test_monomial_ahead_of_sequence_least_many(self):
        self.assertEqual(breach((2, ((1, 0), (0, 1), (0, 61)))), ("monomial", 2))
        self.assertEqual(breach((2, ((0, 1), (0, 1), [0, 1]))), ("monomial", 2))
        self.assertEqual(breach((2, ((0, 1), (1, 1), (1, True)))), ("monomial", 2))
        self.assertEqual(breach((2, stair(60) + ((61, 0),))), ("monomial", 61))

    def test_sequence_ahead_of_least_and_many(self):
        self.assertEqual(breach((2, ((0, 1), (1, 1), (1, 0)))), ("sequence", 2))
        self.assertEqual(breach((2, ((0, 0), (2, 2), (1, 1)))), ("sequence", 2))
        self.assertEqual(breach((2, stair(60) + ((0, 60),))), ("sequence", 61))

    def test_least_ahead_of_many(self):
        self.assertEqual(breach((2, stair(60) + ((60, 1),))), ("least", 61))


class CheckTests(unittest.TestCase):

    def test_the_value_itself_is_returned(self):
        for value in IDEALS:
            with self.subTest(value):
                self.assertIs(check_ideal(value), value)

    def raised(self, value):
        with self.assertRaises(NotIdeal) as caught:
            check_ideal(value)
        self.assertIsInstance(caught.exception, JointError)
        return (caught.exception.rule, caught.exception.place)

    def test_the_error_tells_the_rule_and_the_place(self):
        for value in NO_FORM:
            with self.subTest(value):
                self.assertEqual(self.raised(value), ("form", -1))
        self.assertEqual(self.raised((2, ((0, 1), (1, 61)))), ("monomial", 1))
        self.assertEqual(self.raised((2, ((0, 1), (1, 1), (1, 0)))), ("sequence", 2))
        self.assertEqual(self.raised((2, ((0, 1), (1, 1)))), ("least", 1))
        self.assertEqual(self.raised((2, stair(60))), ("many", 60))


class AllSmallValuesTests(unittest.TestCase):

    def expected(self, entries):
        """The breach of a tuple of monomials, found rule by rule."""
        for k in range(1, len(entries)):
            if entries[k] <= entries[k - 1]:
                return ("sequence", k)
        for k, entry in enumerate(entries):
            if any(under(other, entry) for j, other in enumerate(entries) if j != k):
                return ("least", k)
        return None

    def test_all_triples_of_a_box(self):
        monomials = box(2, 2)
        for a in monomials:
            for b in monomials:
                for c in monomials:
                    self.assertEqual(breach((2, (a, b, c))), self.expected((a, b, c)))

    def test_all_ideals_of_a_box(self):
        found = all_ideals(3, 1)
        self.assertEqual(len(found), 20)
        for value in found:
            self.assertIsNone(breach(value))

    def test_values_are_plain(self):
        for value in NO_FORM + IDEALS:
            self.assertTrue(is_plain(breach(value)))

    def test_lists_are_not_changed(self):
        entries = [(1, 0), [0, 1]]
        breach([2, entries])
        breach((2, (entries, entries)))
        self.assertEqual(entries, [(1, 0), [0, 1]])


if __name__ == "__main__":
    unittest.main()
