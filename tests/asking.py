"""What the tests of all modules ask."""

import unittest

from planesplits import errors


def lists_in(value):
    """Return all lists in a value, itself too."""
    rows = []
    pile = [value]
    while pile:
        thing = pile.pop()
        if isinstance(thing, list):
            rows.append(thing)
        if isinstance(thing, (list, tuple)):
            pile.extend(thing)
    return rows


class Case(unittest.TestCase):
    """A test case that can ask for errors, and for what is new."""

    def fails(self, error, name, value, function, *arguments, **named):
        """Ask that a call raises just this error with this value in the attribute of this name."""
        with self.assertRaises(errors.PlaneError) as held:
            function(*arguments, **named)
        self.assertIs(held.exception.__class__, error)
        self.assertEqual(list(vars(held.exception)), [name])
        told = getattr(held.exception, name)
        if told is not value:
            # Only numbers, names and paths are made anew.
            self.assertIs(told.__class__, value.__class__)
            self.assertIsInstance(told, (int, str, tuple))
            self.assertEqual(told, value)
            self.assertEqual(repr(told), repr(value))

    def fails_at_point(self, value, function, *arguments):
        self.fails(errors.InvalidPoint, "value", value, function, *arguments)

    def fails_at_rectangle(self, value, function, *arguments):
        self.fails(errors.InvalidRectangle, "value", value, function, *arguments)

    def fails_at_points(self, index, function, *arguments):
        self.fails(errors.InvalidPoints, "index", index, function, *arguments)

    def fails_at_tree(self, path, function, *arguments):
        self.fails(errors.InvalidTree, "path", path, function, *arguments)

    def fails_at_number(self, name, function, *arguments):
        self.fails(errors.InvalidNumber, "name", name, function, *arguments)

    def fails_at_order(self, index, function, *arguments):
        self.fails(errors.InvalidOrder, "index", index, function, *arguments)

    def too_large(self, limit, function, *arguments):
        self.fails(errors.TooLarge, "limit", limit, function, *arguments)

    def fails_in_order(self, function, good, bad):
        """Ask for the errors of wrong arguments, of which the first decides.

        `good` are right arguments, `bad` has for each of them a list of tuples (value, error, name, told).
        """
        self.assertEqual(len(good), len(bad))
        for at, rows in enumerate(bad):
            for number, (value, error, name, told) in enumerate(rows):
                for turn in range(3):
                    arguments = list(good[:at]) + [value] + list(good[at + 1:])
                    # Once the others are right, once all behind are wrong, once every other one of them.
                    for later in range(at + 1, len(good), turn) if turn > 0 else []:
                        arguments[later] = bad[later][(number + turn) % len(bad[later])][0] if bad[later] else None
                    self.fails(error, name, told, function, *arguments)

    def gives(self, wanted, function, *arguments):
        """Ask for a value of the same kind throughout, which is new each time, and for arguments that stay."""
        handed = [argument for argument in arguments if isinstance(argument, list)]
        kept = [list(argument) for argument in handed]
        told = function(*arguments)
        again = function(*arguments)
        self.assertEqual(told, wanted)
        self.assertEqual(repr(told), repr(wanted))
        self.assertEqual(repr(again), repr(wanted))
        self.assertEqual(handed, kept)
        lists = lists_in(told) + lists_in(again) + handed
        self.assertEqual(len({id(thing) for thing in lists}), len(lists_in(told) + lists_in(again)) + len(handed))
