"""Tests of the interface: where each name is defined, and with which parameters."""

import importlib
import inspect
import unittest

INTERFACE = {
    "points": ["quarter(root, point)", "ordered(points, axis)", "is_inside(point, rectangle)",
               "distance(point, other)", "gap(point, rectangle)"],
    "quarters": ["built(points)", "is_quarter(value)", "inserted(tree, point)", "removed(tree, point)",
                 "path_to(tree, point)", "points_of(tree)", "levels(tree)", "depth(tree)"],
    "searches": ["ranged(tree, rectangle)", "counted(tree, rectangle)", "nearest(tree, point)"],
    "orders": ["count_orders(tree)", "order_at(tree, number)", "number_of(tree, order)", "count_trees(points)",
               "depths_of(points)", "mean_sum(points)", "least_tree(points)", "lightest_tree(points)",
               "shallow_tree(points)", "needed_depth(many)", "rising(many)"],
    "cells": ["leaves(figures, cap, points)", "split_cells(figures, cap, points)",
              "leaf_at(figures, cap, points, place)", "levels_split(figures, cap, points)",
              "moved(figures, cap, points, index, place)", "are_split(figures, cap, points, cells)",
              "points_between(figures, square)"],
    "shorts": ["code_of(figures, place)", "place_of(figures, code)", "stretch_of(figures, square)",
               "common_cell(figures, place, other)", "short_tree(figures, points)", "is_short(figures, thing)",
               "places_in(figures, tree)", "put_short(figures, tree, point)", "taken_short(figures, tree, point)",
               "way_to(figures, tree, place)", "stretches(figures, rectangle)", "count_stretches(figures, rectangle)",
               "next_code(figures, rectangle, code)", "jumped(figures, points, rectangle)"],
    "numbers": ["shape_of(tree)", "count_shapes(many)", "count_deep(many, depth)", "shape_points(shape)",
                "part_share(many, size)", "random_sum(many)", "most_splits(figures, cap, many)",
                "fewest_splits(figures, cap, many)", "crowded(figures, cap, many)", "spread(figures, cap, many)"],
    "errors": ["InvalidPoint(value)", "InvalidPoints(index)", "InvalidRectangle(value)", "InvalidTree(path)",
               "InvalidNumber(name)", "InvalidOrder(index)", "InvalidText(place)", "NotThere(point)",
               "AlreadyThere(point)", "TooLarge(limit)", "Mismatch(name)"],
}


class InterfaceTest(unittest.TestCase):

    def test_names_and_parameters(self):
        for file_name, rows in INTERFACE.items():
            module = importlib.import_module("planesplits." + file_name)
            for row in rows:
                thing = getattr(module, row.partition("(")[0])
                self.assertEqual(thing.__module__, "planesplits." + file_name)
                self.assertEqual(thing.__name__ + str(inspect.signature(thing)), row)


if __name__ == "__main__":
    unittest.main()
