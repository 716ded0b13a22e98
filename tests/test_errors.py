"""The errors [7] and the interface of errors.py."""

import unittest

from guardwords import errors
from tests.support import ERRORS

ATTRIBUTES = {
    "Unread": ("step", "letter"), "NotPlain": ("step",), "NotSingle": ("number",), "UnknownName": ("name",),
    "TooLarge": ("name",), "WrongUse": ("name",), "InUse": ("name",),
}


def made(error):
    """An object of the error, with the attributes that the interface lists."""
    return error(*["told " + name for name in ATTRIBUTES.get(error.__name__, ())])


class Errors(unittest.TestCase):
    def test_there_are_fourteen(self):
        self.assertEqual(len(ERRORS), 14)
        self.assertEqual(len({error.__name__ for error in ERRORS}), 14)

    def test_base_class(self):
        self.assertTrue(issubclass(errors.GuardError, ValueError))

    def test_each_is_under_the_base_class_and_none_under_another(self):
        for error in ERRORS:
            self.assertEqual(error.__bases__, (errors.GuardError,))
            for other in ERRORS:
                self.assertEqual(issubclass(error, other), error is other)

    def test_attributes_are_set_when_the_object_is_created(self):
        for error in ERRORS:
            found = made(error)
            for name in ATTRIBUTES.get(error.__name__, ()):
                self.assertEqual(getattr(found, name), "told " + name)

    def test_attributes_keep_what_they_are_given(self):
        self.assertEqual(errors.Unread(3, ("pair", "red", 0)).letter, ("pair", "red", 0))
        self.assertEqual(errors.Unread(3, ("pair", "red", 0)).step, 3)
        self.assertEqual(errors.NotPlain(0).step, 0)
        self.assertEqual(errors.NotSingle(1).number, 1)

    def test_each_can_be_raised_and_caught(self):
        for error in ERRORS:
            for caught in (error, errors.GuardError, ValueError):
                with self.assertRaises(caught):
                    raise made(error)

    def test_each_is_defined_in_its_file(self):
        for error in ERRORS + [errors.GuardError]:
            self.assertEqual(error.__module__, "guardwords.errors")


if __name__ == "__main__":
    unittest.main()
