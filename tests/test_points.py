"""Tests of the points [1.1], [1.2]."""

import random
import unittest

import naive
from asking import Case
from planesplits import errors
from planesplits.points import distance, gap, is_inside, ordered, quarter
from samples import FAR, FAR_END, NO_AXES, NO_POINT_LISTS, NO_POINTS, NO_RECTANGLES, line

GRID = [(x, y) for x in range(-2, 3) for y in range(-2, 3)]


class QuarterTest(Case):

    def test_parts(self):
        self.gives(0, quarter, (3, 3), (2, 2))
        self.gives(1, quarter, (3, 3), (4, 2))
        self.gives(2, quarter, (3, 3), (2, 4))
        self.gives(3, quarter, (3, 3), (4, 4))

    def test_same_x_or_y(self):
        self.gives(3, quarter, (3, 3), (3, 4))
        self.gives(0, quarter, (3, 3), (3, 2))
        self.gives(3, quarter, (3, 3), (4, 3))
        self.gives(0, quarter, (3, 3), (2, 3))

    def test_same_point(self):
        self.gives(None, quarter, (3, 3), (3, 3))
        self.gives(None, quarter, (FAR, -FAR), (FAR, -FAR))

    def test_all_of_a_grid(self):
        for root in GRID:
            for point in GRID:
                self.gives(naive.quarter(root, point), quarter, root, point)

    def test_far_points(self):
        self.gives(3, quarter, (-FAR, -FAR), (FAR, FAR))
        self.gives(1, quarter, (FAR - 1, FAR), (FAR, FAR - 1))
        self.gives(2, quarter, (-FAR + 1, -FAR), (-FAR, -FAR + 1))

    def test_by_name(self):
        self.assertEqual(quarter(point=(4, 2), root=(3, 3)), 1)

    def test_wrong_points(self):
        for value in NO_POINTS:
            self.fails_at_point(value, quarter, value, (0, 0))
            self.fails_at_point(value, quarter, (0, 0), value)
            self.fails_at_point(value, quarter, value, None)


class OrderedTest(Case):

    def test_both_axes(self):
        points = [(1, 5), (0, 7), (1, 2), (0, 2)]
        self.gives([(0, 2), (0, 7), (1, 2), (1, 5)], ordered, points, 0)
        self.gives([(0, 2), (1, 2), (1, 5), (0, 7)], ordered, points, 1)
        self.assertEqual(points, [(1, 5), (0, 7), (1, 2), (0, 2)])

    def test_tuples_are_like_lists(self):
        self.gives([(0, 1), (1, 0)], ordered, ((1, 0), (0, 1)), 0)
        self.gives([(1, 0), (0, 1)], ordered, ((0, 1), (1, 0)), 1)

    def test_list_is_new(self):
        points = [(0, 0), (1, 1)]
        for axis in (0, 1):
            self.assertIsNot(ordered(points, axis), points)
            self.gives([], ordered, [], axis)
            self.gives([], ordered, (), axis)
            self.gives([(0, 0)], ordered, [(0, 0)], axis)

    def test_shuffled(self):
        generator = random.Random(1)
        for turn in range(20):
            points = generator.sample(GRID, 12)
            self.gives(sorted(points, key=naive.x_key), ordered, points, 0)
            self.gives(sorted(points, key=naive.y_key), ordered, tuple(points), 1)

    def test_many_and_far(self):
        points = line(499, -1, -1) + [(FAR, -FAR)]
        self.gives(points[-2::-1] + points[-1:], ordered, points, 0)
        self.gives(points[-1:] + points[-2::-1], ordered, points, 1)

    def test_by_name(self):
        self.assertEqual(ordered(axis=1, points=[(0, 1), (1, 0)]), [(1, 0), (0, 1)])

    def test_wrong_points(self):
        for index, value in NO_POINT_LISTS:
            self.fails_at_points(index, ordered, value, 0)
            self.fails_at_points(index, ordered, value, 1)
            self.fails_at_points(index, ordered, value, "x")

    def test_wrong_entries(self):
        for value in NO_POINTS:
            self.fails_at_points(1, ordered, [(9, 9), value, value, (9, 9)], 0)

    def test_wrong_axes(self):
        for axis in NO_AXES:
            self.fails(errors.InvalidNumber, "name", "axis", ordered, [(0, 0)], axis)


class IsInsideTest(Case):

    def test_ends_and_beside_them(self):
        for point in GRID:
            for ends in [(-1, -1, 1, 1), (0, -1, 0, 1), (0, 0, 0, 0), (-2, 1, -1, 2)]:
                for lacks in range(16):
                    rectangle = tuple([None if lacks >> k & 1 else ends[k] for k in range(4)])
                    self.gives(naive.inside(point, rectangle), is_inside, point, rectangle)

    def test_each_end(self):
        self.gives(True, is_inside, (3, 4), (3, 4, 3, 4))
        self.gives(False, is_inside, (3, 4), (4, 4, 5, 5))
        self.gives(False, is_inside, (3, 4), (3, 5, 5, 5))
        self.gives(False, is_inside, (3, 4), (1, 1, 2, 4))
        self.gives(False, is_inside, (3, 4), (1, 1, 3, 3))
        self.gives(True, is_inside, (3, 4), (None, None, None, None))

    def test_far(self):
        self.gives(True, is_inside, (FAR, -FAR), (-FAR_END, -FAR_END, FAR_END, FAR_END))
        self.gives(True, is_inside, (FAR, -FAR), (FAR, None, None, -FAR))
        self.gives(False, is_inside, (FAR, -FAR), (FAR + 1, None, None, None))
        self.gives(False, is_inside, (FAR, -FAR), (None, FAR_END, None, FAR_END))

    def test_by_name(self):
        self.assertIs(is_inside(rectangle=(0, 0, 1, 1), point=(1, 0)), True)

    def test_wrong_arguments(self):
        for value in NO_POINTS:
            self.fails_at_point(value, is_inside, value, (0, 0, 1, 1))
            self.fails_at_point(value, is_inside, value, None)
        for value in NO_RECTANGLES:
            self.fails_at_rectangle(value, is_inside, (0, 0), value)


class DistanceTest(Case):

    def test_squares(self):
        self.gives(25, distance, (0, 0), (3, 4))
        self.gives(25, distance, (3, 4), (0, 0))
        self.gives(5, distance, (-1, 1), (0, -1))
        self.gives(0, distance, (7, -7), (7, -7))
        self.gives(9, distance, (0, 7), (3, 7))
        self.gives(8 * 10 ** 60, distance, (FAR, FAR), (-FAR, -FAR))

    def test_by_name(self):
        self.assertEqual(distance(other=(0, 0), point=(1, 2)), 5)

    def test_wrong_points(self):
        for value in NO_POINTS:
            self.fails_at_point(value, distance, value, (0, 0))
            self.fails_at_point(value, distance, (0, 0), value)
            self.fails_at_point(value, distance, value, None)


class GapTest(Case):

    def test_sides_and_corners(self):
        rectangle = (0, 0, 10, 20)
        self.gives(25, gap, (-3, -4), rectangle)
        self.gives(9, gap, (-3, 4), rectangle)
        self.gives(16, gap, (3, -4), rectangle)
        self.gives(5, gap, (11, 22), rectangle)
        self.gives(1, gap, (11, 20), rectangle)
        self.gives(4, gap, (10, 22), rectangle)
        self.gives(5, gap, (-2, 21), rectangle)
        self.gives(0, gap, (10, 20), rectangle)
        self.gives(0, gap, (0, 0), rectangle)
        self.gives(0, gap, (5, 5), rectangle)

    def test_lacking_ends(self):
        for point in GRID:
            for ends in [(-1, -1, 1, 1), (0, -1, 0, 1), (0, 0, 0, 0), (-2, 1, -1, 2)]:
                for lacks in range(16):
                    rectangle = tuple([None if lacks >> k & 1 else ends[k] for k in range(4)])
                    self.gives(naive.gap(point, rectangle), gap, point, rectangle)

    def test_far(self):
        self.gives(2 * (11 * FAR) ** 2, gap, (-FAR, -FAR), (FAR_END, FAR_END, FAR_END, FAR_END))
        self.gives((11 * FAR) ** 2, gap, (FAR, 0), (None, None, -FAR_END, None))

    def test_by_name(self):
        self.assertEqual(gap(rectangle=(0, 0, 1, 1), point=(2, 3)), 5)

    def test_wrong_arguments(self):
        for value in NO_POINTS:
            self.fails_at_point(value, gap, value, (0, 0, 1, 1))
            self.fails_at_point(value, gap, value, value)
        for value in NO_RECTANGLES:
            self.fails_at_rectangle(value, gap, (0, 0), value)


if __name__ == "__main__":
    unittest.main()
