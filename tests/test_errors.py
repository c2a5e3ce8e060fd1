"""The interface of errors.py."""

import unittest

from pulsebook import errors

NAMES = ("BadForm", "NotTight", "TooLong", "BadList", "BadWalk", "BadText", "BadRule")


class Errors(unittest.TestCase):

    def test_pulse_error_stands_under_value_error(self):
        self.assertEqual(errors.PulseError.__bases__, (ValueError,))

    def test_each_stands_straight_under_pulse_error(self):
        for name in NAMES:
            with self.subTest(name=name):
                self.assertEqual(getattr(errors, name).__bases__, (errors.PulseError,))

    def test_none_stands_under_another(self):
        for name in NAMES:
            for another in NAMES:
                if name != another:
                    with self.subTest(name=name, another=another):
                        self.assertFalse(issubclass(getattr(errors, name), getattr(errors, another)))

    def test_each_is_caught_as_pulse_error(self):
        for name in NAMES:
            with self.subTest(name=name), self.assertRaises(errors.PulseError):
                raise getattr(errors, name)(0)

    def test_bad_rule_has_its_place(self):
        for at in (None, 0, 1, 11):
            with self.subTest(at=at):
                self.assertEqual(errors.BadRule(at).at, at)
                self.assertEqual(errors.BadRule(at=at).at, at)

    def test_bad_rule_has_its_place_when_caught(self):
        try:
            raise errors.BadRule(7)
        except ValueError as error:
            self.assertEqual(error.at, 7)


if __name__ == "__main__":
    unittest.main()
