"""Tests of the interface: where each name is defined, and with which parameters."""

import importlib
import inspect
import unittest

INTERFACE = {
    "points": ["quarter(root, point)", "ordered(points, axis)", "is_inside(point, rectangle)",
               "distance(point, other)", "gap(point, rectangle)"],
    "quarters": ["built(points)", "is_quarter(value)", "inserted(tree, point)", "removed(tree, point)",
                 "path_to(tree, point)", "points_of(tree)", "levels(tree)", "depth(tree)"],
    "searches": ["ranged(tree, rectangle)", "counted(tree, rectangle)", "nearest(tree, point)"],
    "errors": ["InvalidPoint(value)", "InvalidPoints(index)", "InvalidRectangle(value)", "InvalidTree(path)",
               "InvalidNumber(name)", "InvalidOrder(index)", "InvalidText(place)", "NotThere(point)",
               "AlreadyThere(point)", "TooLarge(limit)", "Mismatch(name)"],
}


class InterfaceTest(unittest.TestCase):

    def test_names_and_parameters(self):
        for file_name, rows in INTERFACE.items():
            module = importlib.import_module("planesplits." + file_name)
            for row in rows:
                thing = getattr(module, row.partition("(")[0])
                self.assertEqual(thing.__module__, "planesplits." + file_name)
                self.assertEqual(thing.__name__ + str(inspect.signature(thing)), row)


if __name__ == "__main__":
    unittest.main()
