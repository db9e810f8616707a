"""What the tests of all modules ask."""

import unittest

from planesplits import errors


class Case(unittest.TestCase):
    """A test case that can ask for errors, and for what is new."""

    def fails(self, error, name, value, function, *arguments, **named):
        """Ask that a call raises just this error with this value in the attribute of this name."""
        with self.assertRaises(errors.PlaneError) as held:
            function(*arguments, **named)
        self.assertIs(held.exception.__class__, error)
        self.assertEqual(list(vars(held.exception)), [name])
        told = getattr(held.exception, name)
        if told is not value:
            # Only numbers, names and paths are made anew.
            self.assertIs(told.__class__, value.__class__)
            self.assertIsInstance(told, (int, str, tuple))
            self.assertEqual(told, value)
            self.assertEqual(repr(told), repr(value))

    def fails_at_point(self, value, function, *arguments):
        self.fails(errors.InvalidPoint, "value", value, function, *arguments)

    def fails_at_rectangle(self, value, function, *arguments):
        self.fails(errors.InvalidRectangle, "value", value, function, *arguments)

    def fails_at_points(self, index, function, *arguments):
        self.fails(errors.InvalidPoints, "index", index, function, *arguments)

    def fails_at_tree(self, path, function, *arguments):
        self.fails(errors.InvalidTree, "path", path, function, *arguments)

    def gives(self, wanted, function, *arguments):
        """Ask for a value of the same kind throughout, which is new each time."""
        told = function(*arguments)
        again = function(*arguments)
        self.assertEqual(told, wanted)
        self.assertEqual(repr(told), repr(wanted))
        self.assertEqual(repr(again), repr(wanted))
        self.no_list_twice(told, again)

    def no_list_twice(self, told, again):
        if isinstance(told, list):
            self.assertIsNot(told, again)
        if isinstance(told, tuple):
            for one, other in zip(told, again):
                self.no_list_twice(one, other)
