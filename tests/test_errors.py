"""[4] and what [1] and [2] say of errors."""

import unittest

from rankedjoins import errors
from support import HUGE

ATTRIBUTES = {
    "InvalidAlphabet": ("alphabet",),
    "NotProper": ("rank",),
    "NoPiece": ("piece",),
    "UnknownSign": ("sign", "at"),
    "InvalidText": ("text", "at"),
    "InvalidNumber": ("number",),
    "NotCut": ("row",),
    "InvalidModel": ("last",),
    "NoChance": ("text",),
}


class Errors(unittest.TestCase):
    def test_join_error_stands_directly_under_value_error(self):
        self.assertEqual(errors.JoinError.__bases__, (ValueError,))

    def test_each_error_stands_directly_under_join_error(self):
        for name in ATTRIBUTES:
            self.assertEqual(getattr(errors, name).__bases__, (errors.JoinError,), name)

    def test_the_very_arguments_are_attributes(self):
        values = (None, True, -1, HUGE, "x", (), [0], [[0], (1,)])
        for name, attributes in ATTRIBUTES.items():
            for value in values:
                arguments = [value, [value]][:len(attributes)]
                error = getattr(errors, name)(*arguments)
                for attribute, argument in zip(attributes, arguments):
                    self.assertIs(getattr(error, attribute), argument, name)

    def test_arguments_by_name(self):
        for name, attributes in ATTRIBUTES.items():
            error = getattr(errors, name)(**{attribute: 5 for attribute in attributes})
            self.assertEqual([getattr(error, attribute) for attribute in attributes], [5] * len(attributes))

    def test_each_is_caught_as_a_join_error_and_has_a_message(self):
        for name, attributes in ATTRIBUTES.items():
            with self.assertRaises(errors.JoinError) as caught:
                raise getattr(errors, name)(*[7] * len(attributes))
            self.assertIn("7", str(caught.exception))


if __name__ == "__main__":
    unittest.main()
