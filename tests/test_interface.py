"""Tests of the interface: where each name is defined, and with which parameters."""

import importlib
import inspect
import unittest

INTERFACE = {
    "points": ["quarter(root, point)", "ordered(points, axis)", "is_inside(point, rectangle)",
               "distance(point, other)", "gap(point, rectangle)"],
    "quarters": ["built(points)", "is_quarter(value)", "inserted(tree, point)", "removed(tree, point)",
                 "path_to(tree, point)", "points_of(tree)", "levels(tree)", "depth(tree)"],
    "searches": ["ranged(tree, rectangle)", "counted(tree, rectangle)", "nearest(tree, point)"],
    "orders": ["count_orders(tree)", "order_at(tree, number)", "number_of(tree, order)", "count_trees(points)",
               "depths_of(points)", "mean_sum(points)", "least_tree(points)", "lightest_tree(points)",
               "shallow_tree(points)", "needed_depth(many)", "rising(many)"],
    "cells": ["leaves(figures, cap, points)", "split_cells(figures, cap, points)",
              "leaf_at(figures, cap, points, place)", "levels_split(figures, cap, points)",
              "moved(figures, cap, points, index, place)", "are_split(figures, cap, points, cells)",
              "points_between(figures, square)"],
    "shorts": ["code_of(figures, place)", "place_of(figures, code)", "stretch_of(figures, square)",
               "common_cell(figures, place, other)", "short_tree(figures, points)", "is_short(figures, thing)",
               "places_in(figures, tree)", "put_short(figures, tree, point)", "taken_short(figures, tree, point)",
               "way_to(figures, tree, place)", "stretches(figures, rectangle)", "count_stretches(figures, rectangle)",
               "next_code(figures, rectangle, code)", "jumped(figures, points, rectangle)"],
    "numbers": ["shape_of(tree)", "count_shapes(many)", "count_deep(many, depth)", "shape_points(shape)",
                "part_share(many, size)", "random_sum(many)", "most_splits(figures, cap, many)",
                "fewest_splits(figures, cap, many)", "crowded(figures, cap, many)", "spread(figures, cap, many)"],
    "loose": ["home_of(figures, box)", "loose_cell(figures, square)", "free_moves(figures, box)",
              "homes(figures, boxes)", "are_homes(figures, boxes, thing)", "loose_tree(figures, boxes)",
              "most_in_tree(figures, many)", "meeting(figures, boxes, rectangle)",
              "searched(figures, boxes, rectangle)", "idle(figures, boxes, rectangle)",
              "cells_met(figures, level, rectangle)", "most_met(figures, level, width, height)",
              "least_met(figures, level, width, height)", "reaching(figures, level, width, height)"],
    "middles": ["middle(points)", "is_middle(value)", "is_even(tree)", "in_order(tree)", "height(tree)",
                "put(tree, point)", "taken(tree, point)", "put_evenly(tree, point, top, bottom)",
                "middle_ranged(tree, rectangle)", "middle_counted(tree, rectangle)", "middle_nearest(tree, point)",
                "useless_visits(points, rectangle)"],
    "forest": ["Forest(points=())", "cost_of(many)", "forest_most(many, x, y)"],
    "worst": ["most_useless(many, axis, x, y)", "most_counted(many, axis, x, y)", "worst_useless(many, x, y)",
              "worst_counted(many, x, y)", "most_in_quarter(tree, x, y)"],
    "alike": ["boxes(tree)", "visits(tree, rectangle)", "signature(tree)", "is_alike(one, other)",
              "parting(one, other)", "groups(trees)", "all_trees(points)"],
    "pictures": ["painted(figures, places)", "is_picture(figures, thing)", "colour_at(figures, picture, place)",
                 "both(figures, one, other)", "either(figures, one, other)", "without(figures, one, other)",
                 "opposite(figures, picture)", "turned_left(figures, picture)", "mirrored(figures, picture)",
                 "shifted(figures, picture, dx, dy)", "area(figures, picture)", "edge(figures, picture)",
                 "regions(figures, picture)", "cells_of(figures, picture)", "box_cells(figures, rectangle)",
                 "box_picture(figures, rectangle)", "best_shift(figures, picture)", "rows_of(figures, picture)",
                 "read_rows(rows)", "count_pictures(figures, split)"],
    "live": ["Index(figures, cap)"],
    "texts": ["quarter_text(tree)", "read_quarter(text)", "middle_text(tree)", "read_middle(text)",
              "journal_text(index)", "read_journal(text)"],
    "errors": ["InvalidPoint(value)", "InvalidPoints(index)", "InvalidRectangle(value)", "InvalidTree(path)",
               "InvalidNumber(name)", "InvalidOrder(index)", "InvalidText(place)", "NotThere(point)",
               "AlreadyThere(point)", "TooLarge(limit)", "Mismatch(name)"],
}

METHODS = {
    ("forest", "Forest"): ["put(self, point)", "take(self, point)", "trees(self)", "points(self)", "gone(self)",
                           "moved(self)", "ranged(self, rectangle)", "counted(self, rectangle)",
                           "nearest(self, point)", "__eq__(self, other)"],
    ("live", "Index"): ["put(self, point)", "take(self, point)", "move(self, point, place)", "points(self)",
                        "quarter(self)", "middle(self)", "leaves(self)", "deeds(self)", "undo(self)",
                        "at(self, number)", "search(self, rectangle)", "near(self, point)", "__eq__(self, other)"],
}


class InterfaceTest(unittest.TestCase):

    def test_names_and_parameters(self):
        for file_name, rows in INTERFACE.items():
            module = importlib.import_module("planesplits." + file_name)
            for row in rows:
                thing = getattr(module, row.partition("(")[0])
                self.assertEqual(thing.__module__, "planesplits." + file_name)
                self.assertEqual(thing.__name__ + str(inspect.signature(thing)), row)

    def test_methods(self):
        for (file_name, class_name), rows in METHODS.items():
            thing = getattr(importlib.import_module("planesplits." + file_name), class_name)
            for row in rows:
                # The class itself has the method, not only one of its bases.
                method = vars(thing)[row.partition("(")[0]]
                self.assertEqual(method.__name__ + str(inspect.signature(method)), row)

    def test_all_files_are_there(self):
        self.assertEqual(sorted(INTERFACE), sorted("""errors points quarters searches orders cells shorts loose middles
            forest worst numbers alike pictures texts live""".split()))


if __name__ == "__main__":
    unittest.main()
