"""Tests of the ways in which points grow to trees [2.1], [2.2], [8.3], and of the time that many points take."""

import random
import time
import unittest

import naive
import naive_middles
from planesplits import growth
from planesplits.quarters import built, removed
from samples import FAR, from_both_ends, in_two_lines, line, stairs

SIZES = [0, 1, 2, 3, 8, 30, 31, 32, 33, 60, 200, 250, 500]
DRAWN = random.Random(5)


def drawn(many, width, height):
    return DRAWN.sample([(x, y) for x in range(width) for y in range(height)], many)


def orders(many):
    """Return tuples (name, list of so many points)."""
    rows = [("both ends, " + name, from_both_ends(points)) for name, points in lines(many)]
    rows += lines(many) + [("two lines", in_two_lines(many))]
    rows += [("stairs", stairs(many, x, y)) for x in (-1, 1) for y in (-1, 1)]
    rows += [("drawn", drawn(many, 23, 23)), ("drawn, flat", drawn(many, 250, 2)), ("drawn, high", drawn(many, 2, 250))]
    rows += [("drawn, far", [(x * FAR // 30, -y * FAR // 30) for x, y in drawn(many, 30, 30)])]
    return rows + [("drawn on a line", DRAWN.sample(line(many, 1, 1), many))]


def lines(many):
    steps = [("rising", 1, 1), ("falling", 1, -1), ("equal x", 0, 1), ("equal y", 1, 0)]
    rows = [(name, line(many, x, y)) for name, x, y in steps]
    return rows + [(name + " backwards", points[::-1]) for name, points in rows]


def quickest(call, *arguments):
    """Return the least time of a few calls, as others may use the machine, too."""
    times = []
    for turn in range(20):
        start = time.perf_counter()
        call(*arguments)
        times.append(time.perf_counter() - start)
    return min(times)


class BothWaysTest(unittest.TestCase):

    def test_both_ways_are_used(self):
        self.assertIn(growth.MANY_POINTS, SIZES)
        self.assertIn(growth.MANY_POINTS - 1, SIZES)

    def test_each_against_the_other(self):
        for many in SIZES:
            for name, points in orders(many):
                self.assertEqual(growth.rows_by_masks(points), growth.rows_by_steps(points), (name, many))
                self.assertEqual(growth.rows_by_masks(tuple(points)), growth.rows_by_steps(points), (name, many))

    def test_both_against_inserting(self):
        for many in (0, 1, 2, 3, 8, 31, 32, 33, 60):
            for name, points in orders(many):
                self.assertEqual(naive.nodes(built(points)), naive.nodes(naive.build(points)), (name, many))

    def test_rows(self):
        for rows in (growth.rows_by_steps, growth.rows_by_masks):
            self.assertEqual(rows([]), [])
            self.assertEqual(rows([(3, 4)]), [[1, 1, 1, 1]])
            self.assertEqual(rows([(5, 5), (9, 9), (7, 2), (8, 8), (0, 9)]),
                             [[5, 2, 4, 1], [3, 5, 5, 5], [5, 5, 5, 5], [5, 5, 5, 5], [5, 5, 5, 5]])

    def test_many_small_ones(self):
        for turn in range(300):
            points = drawn(DRAWN.randrange(10), 4, 4)
            self.assertEqual(growth.rows_by_masks(points), growth.rows_by_steps(points), points)

    def test_points_stay(self):
        for many in (20, 100):
            points = line(many, 1, -1)
            built(points)
            self.assertEqual(points, line(many, 1, -1))


class SidesTest(unittest.TestCase):

    def test_against_putting(self):
        for many in (0, 1, 2, 3, 8, 31, 32, 33, 60):
            for name, points in orders(many):
                tree = None
                for point in points:
                    tree = naive_middles.put(tree, point)
                rows = growth.side_rows_by_masks(points)
                self.assertEqual(growth.middle_of_rows(points, rows, many), tree, (name, many))
                self.assertEqual(growth.side_rows_by_masks(tuple(points)), rows)

    def test_rows(self):
        self.assertEqual(growth.side_rows_by_masks([]), [])
        self.assertEqual(growth.side_rows_by_masks([(3, 4)]), [[1, 1]])
        self.assertEqual(growth.side_rows_by_masks([(5, 5), (9, 9), (7, 2), (8, 8), (0, 9)]),
                         [[4, 1], [2, 5], [5, 3], [5, 5], [5, 5]])


class FirstTest(unittest.TestCase):

    def test_rows_tell_the_trees_of_the_first_points(self):
        for many in (0, 1, 2, 33, 60):
            for name, points in orders(many):
                rows, side_rows = growth.rows_by_masks(points), growth.side_rows_by_masks(points)
                middle = None
                for number in range(many + 1):
                    quarter = growth.quarter_of_rows(points, rows, number)
                    self.assertEqual(quarter, growth.grown(points[:number]), (name, many, number))
                    self.assertEqual(growth.middle_of_rows(points, side_rows, number), middle, (name, many, number))
                    middle = naive_middles.put(middle, points[number]) if number < many else None


class RemovedTest(unittest.TestCase):

    def test_root_and_others(self):
        for many in (1, 2, 31, 32, 33, 34, 200, 500):
            for name, points in orders(many):
                tree = built(points)
                wanted = [point for path, point in naive.nodes(tree)][1:]
                self.assertEqual(naive.nodes(removed(tree, points[0])), naive.nodes(built(wanted)), (name, many))

    def test_both_ways_in_one_tree(self):
        points = line(80, 1, 1)
        for index in (0, 1, 46, 47, 48, 49, 79):
            wanted = naive.build(points[:index] + points[index + 1:])
            self.assertEqual(naive.nodes(removed(built(points), points[index])), naive.nodes(wanted))


class TimeTest(unittest.TestCase):

    def test_500_points(self):
        for name, points in orders(500):
            tree = built(points)
            self.assertLess(quickest(built, points), 0.01, name)
            self.assertLess(quickest(removed, tree, points[0]), 0.01, name)


if __name__ == "__main__":
    unittest.main()
