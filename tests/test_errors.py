"""The errors of [2] and of jointneeds/errors.py."""

import unittest

from jointneeds import errors
from jointneeds.errors import JointError

ATTRIBUTES = {
    "NotIdeal": ("rule", "place"),
    "TooMany": ("limit",),
    "TooGreat": ("limit",),
    "NotText": ("place",),
    "NotBelow": ("place",),
    "NotComplex": (),
    "NotSquarefree": (),
    "NotCycle": (),
    "NotResolution": ("rule", "place"),
    "NotGrowth": ("place",),
    "NotListing": ("place",),
    "NotStable": (),
    "NotGraph": (),
    "NotTwo": (),
    "NotProper": (),
    "NothingLeft": (),
}

SAMPLES = {"rule": "form", "place": 7, "limit": 60}


class ErrorTests(unittest.TestCase):

    def test_base_is_a_value_error(self):
        self.assertEqual(JointError.__bases__, (ValueError,))

    def test_all_sixteen_are_there_and_no_others(self):
        found = sorted(
            name for name, thing in vars(errors).items()
            if isinstance(thing, type) and thing is not JointError
        )
        self.assertEqual(found, sorted(ATTRIBUTES))
        self.assertEqual(len(found), 16)

    def test_each_is_a_direct_subclass_of_the_base(self):
        for name in ATTRIBUTES:
            with self.subTest(name):
                self.assertEqual(getattr(errors, name).__bases__, (JointError,))

    def test_none_is_a_subclass_of_another_one(self):
        for one in ATTRIBUTES:
            for other in ATTRIBUTES:
                if one != other:
                    with self.subTest(one=one, other=other):
                        self.assertFalse(issubclass(getattr(errors, one), getattr(errors, other)))

    def test_each_is_defined_in_errors(self):
        for name in ATTRIBUTES:
            with self.subTest(name):
                self.assertEqual(getattr(errors, name).__module__, "jointneeds.errors")

    def test_attributes_are_set_when_the_object_is_created(self):
        for name, attributes in ATTRIBUTES.items():
            with self.subTest(name):
                error = getattr(errors, name)(*[SAMPLES[word] for word in attributes])
                self.assertEqual(vars(error), {word: SAMPLES[word] for word in attributes})

    def test_each_can_be_shown(self):
        for name, attributes in ATTRIBUTES.items():
            with self.subTest(name):
                error = getattr(errors, name)(*[SAMPLES[word] for word in attributes])
                self.assertIsInstance(str(error), str)


if __name__ == "__main__":
    unittest.main()
