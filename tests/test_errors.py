"""Tests of the errors [1]."""

import unittest

from planesplits import errors
from planesplits.points import quarter

NAMES = {
    "InvalidPoint": "value", "InvalidPoints": "index", "InvalidRectangle": "value", "InvalidTree": "path",
    "InvalidNumber": "name", "InvalidOrder": "index", "InvalidText": "place", "NotThere": "point",
    "AlreadyThere": "point", "TooLarge": "limit", "Mismatch": "name",
}


def deep_tuple():
    value = None
    for level in range(5000):
        value = (value,)
    return value


def round_list():
    value = []
    value.append(value)
    return value


VALUES = [
    None, True, False, 0, -1, 10 ** 5000, -(10 ** 5000), "", "axis", "a\nb\t{0} {x} \\", "100 percent", b"ab", [],
    [1, [2]], (), (1, 2), {}, {"a": [1]}, {1, 2}, frozenset([1]), range(3), 1j, ..., NotImplemented, object(), int,
    len, quarter, errors.InvalidPoint, errors.InvalidPoint([]), (10 ** 5000, [10 ** 5000]), deep_tuple(), round_list(),
]


class ErrorsTest(unittest.TestCase):

    def test_base(self):
        self.assertEqual(errors.PlaneError.__bases__, (ValueError,))
        self.assertEqual(errors.PlaneError.__module__, "planesplits.errors")
        with self.assertRaises(ValueError):
            raise errors.PlaneError

    def test_each_is_straight_under_the_base(self):
        for name in NAMES:
            error = getattr(errors, name)
            self.assertEqual(error.__bases__, (errors.PlaneError,))
            self.assertEqual(error.__name__, name)
            self.assertEqual(error.__module__, "planesplits.errors")
        self.assertEqual(len({getattr(errors, name) for name in NAMES}), 11)

    def test_there_are_no_others(self):
        there = [name for name, thing in vars(errors).items() if isinstance(thing, type)]
        self.assertEqual(sorted(there), sorted(list(NAMES) + ["PlaneError"]))

    def test_by_position(self):
        for name, attribute in NAMES.items():
            for value in VALUES:
                made = getattr(errors, name)(value)
                self.assertIs(getattr(made, attribute), value)
                self.assertEqual(list(vars(made)), [attribute])

    def test_by_keyword(self):
        for name, attribute in NAMES.items():
            for value in VALUES:
                made = getattr(errors, name)(**{attribute: value})
                self.assertIs(getattr(made, attribute), value)

    def test_wants_its_value(self):
        for name, attribute in NAMES.items():
            error = getattr(errors, name)
            for arguments, named in [((), {}), ((1, 2), {}), ((), {"other": 1}), ((1,), {attribute: 1})]:
                with self.assertRaises(TypeError):
                    error(*arguments, **named)

    def test_message_of_any_value(self):
        for name in NAMES:
            for value in VALUES:
                made = getattr(errors, name)(value)
                self.assertTrue(str(made))
                self.assertTrue(repr(made))

    def test_is_raised_and_caught(self):
        for name, attribute in NAMES.items():
            for base in (getattr(errors, name), errors.PlaneError, ValueError):
                value = [name]
                try:
                    raise getattr(errors, name)(value)
                except base as error:
                    self.assertIs(getattr(error, attribute), value)


if __name__ == "__main__":
    unittest.main()
