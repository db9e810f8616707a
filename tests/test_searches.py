"""Tests of the searches in quarter trees [3.1], [3.2], [3.3]."""

import itertools
import random
import unittest

import naive
from asking import Case
from planesplits.searches import counted, nearest, ranged
from samples import (FAR, FAR_END, LEAF, NO_POINTS, NO_RECTANGLES, NO_TREES, STEPS, TREE, line, long_chain, node)

ALL = (None, None, None, None)
GRID = [(x, y) for x in range(6) for y in range(6)]
SMALL_ENDS = [None, -1, 0, 1, 2, 3]
SMALL_RECTANGLES = [
    ends for ends in itertools.product(SMALL_ENDS, repeat=4)
    if (ends[0] is None or ends[2] is None or ends[0] <= ends[2])
    and (ends[1] is None or ends[3] is None or ends[1] <= ends[3])]


def random_trees(seed, many, most):
    generator = random.Random(seed)
    return [naive.build(generator.sample(GRID, generator.randrange(most + 1))) for turn in range(many)]


def random_rectangle(generator):
    ends = [generator.randrange(-1, 7) for k in range(4)]
    ends = [min(ends[0], ends[2]), min(ends[1], ends[3]), max(ends[0], ends[2]), max(ends[1], ends[3])]
    return tuple([None if generator.randrange(3) == 0 else end for end in ends])


class SearchCase(Case):

    def like_naive(self, search, same, tree, question):
        told = search(tree, question)
        wanted = same(tree, question)
        self.assertEqual((told, repr(told)), (wanted, repr(wanted)))


class RangedTest(SearchCase):

    def test_none(self):
        self.gives(([], []), ranged, None, ALL)
        self.gives(([], []), ranged, None, (0, 0, 0, 0))

    def test_one_point(self):
        self.gives(([(1, 2)], [(1, 2)]), ranged, ((1, 2), LEAF), (1, 2, 1, 2))
        self.gives(([], [(1, 2)]), ranged, ((1, 2), LEAF), (2, 2, 3, 3))

    def test_example(self):
        self.gives(([(1, 1)], [(0, 0), (1, 1), (2, 2)]), ranged, naive.build(line(4, 1, 1)), (1, 1, 1, 1))

    def test_order(self):
        points = [(5, 5), (1, 2), (7, 2), (8, 1), (6, 3), (9, 9), (8, 8)]
        self.gives((points, points), ranged, TREE, ALL)
        self.gives(([(7, 2), (8, 1), (8, 8)], [(5, 5), (7, 2), (8, 1), (6, 3), (9, 9), (8, 8)]),
                   ranged, TREE, (7, None, 8, None))

    def test_ends_at_the_split(self):
        tree = node((5, 5), node((1, 1)), node((9, 1)), node((1, 9)), node((9, 9)))
        four = [(5, 5), (1, 1), (9, 1), (1, 9), (9, 9)]
        self.gives(([(5, 5)], four), ranged, tree, (5, 5, 5, 5))
        self.gives(([], [(5, 5), (9, 1), (9, 9)]), ranged, tree, (6, None, 6, None))
        self.gives(([], [(5, 5), (1, 1), (1, 9)]), ranged, tree, (4, None, 4, None))
        self.gives(([], [(5, 5), (1, 9), (9, 9)]), ranged, tree, (None, 6, None, 6))
        self.gives(([], [(5, 5), (1, 1), (9, 1)]), ranged, tree, (None, 4, None, 4))
        self.gives(([(5, 5), (1, 1), (9, 1), (1, 9), (9, 9)], four), ranged, tree, (None, None, None, None))

    def test_all_small_rectangles(self):
        for points in [[(1, 1), (0, 0), (2, 0), (0, 2), (2, 2)], [(1, 1), (1, 0), (0, 1), (2, 1), (1, 2)],
                       [(0, 2), (1, 1), (2, 0), (2, 2)], [(2, 1), (0, 0), (1, 2), (0, 1), (1, 0)]]:
            for rectangle in SMALL_RECTANGLES:
                self.like_naive(ranged, naive.ranged, naive.build(points), rectangle)

    def test_many(self):
        generator = random.Random(31)
        for tree in random_trees(3, 150, 30):
            for turn in range(20):
                self.like_naive(ranged, naive.ranged, tree, random_rectangle(generator))

    def test_chains(self):
        for part, (step_x, step_y) in enumerate(STEPS):
            points = line(500, step_x, step_y)
            self.gives((points, points), ranged, long_chain(part, 500), ALL)
            x, y = points[250]
            self.gives(([points[250]], points[:252]), ranged, long_chain(part, 500), (x, y, x, y))

    def test_far(self):
        tree = node((0, 0), node((-FAR, -FAR)), None, None, node((FAR, FAR)))
        points = [(0, 0), (-FAR, -FAR), (FAR, FAR)]
        self.gives((points, points), ranged, tree, (-FAR_END, -FAR_END, FAR_END, FAR_END))
        self.gives(([], [(0, 0), (FAR, FAR)]), ranged, tree, (FAR_END, FAR_END, FAR_END, FAR_END))

    def test_by_name(self):
        self.assertEqual(ranged(rectangle=ALL, tree=((1, 2), LEAF)), ([(1, 2)], [(1, 2)]))


class CountedTest(SearchCase):

    def test_none(self):
        self.gives((0, []), counted, None, ALL)

    def test_example(self):
        self.gives((3, [(0, 0), (1, 1), (2, 2)]), counted, naive.build(line(4, 1, 1)), (1, 1, None, None))

    def test_no_ends(self):
        self.gives((7, [(5, 5)]), counted, TREE, ALL)
        self.gives((1, [(1, 2)]), counted, ((1, 2), LEAF), ALL)

    def test_one_point(self):
        self.gives((1, [(1, 2)]), counted, ((1, 2), LEAF), (1, 2, 1, 2))
        self.gives((0, [(1, 2)]), counted, ((1, 2), LEAF), (2, 2, 2, 2))

    def test_each_end(self):
        tree = node((5, 5), node((1, 1), node((0, 0))), node((9, 1), None, node((10, 0))),
                    node((1, 9), None, None, node((0, 10))), node((9, 9), None, None, None, node((10, 10))))
        self.gives((9, [(5, 5), (1, 1), (0, 0), (9, 1), (1, 9), (0, 10), (9, 9)]),
                   counted, tree, (-50, None, None, None))
        self.gives((9, [(5, 5), (1, 1), (9, 1), (10, 0), (1, 9), (9, 9), (10, 10)]),
                   counted, tree, (None, None, 50, None))
        self.gives((9, [(5, 5), (1, 1), (0, 0), (9, 1), (10, 0), (1, 9), (9, 9)]),
                   counted, tree, (None, -50, None, None))
        self.gives((9, [(5, 5), (1, 1), (9, 1), (1, 9), (0, 10), (9, 9), (10, 10)]),
                   counted, tree, (None, None, None, 50))
        self.gives((5, [(5, 5), (1, 1), (9, 1), (1, 9), (9, 9)]), counted, tree, (5, None, None, None))
        self.gives((5, [(5, 5), (1, 1), (9, 1), (1, 9), (9, 9)]), counted, tree, (None, None, 5, None))

    def test_box_and_end_at_one_place(self):
        tree = node((5, 5), None, None, None, node((8, 8), None, None, None, node((9, 9))))
        self.gives((3, [(5, 5), (8, 8)]), counted, tree, (5, 5, None, None))
        self.gives((2, [(5, 5), (8, 8), (9, 9)]), counted, tree, (6, 5, None, None))
        self.gives((2, [(5, 5), (8, 8), (9, 9)]), counted, tree, (5, 6, None, None))
        tree = node((5, 5), node((2, 2), node((1, 1))))
        self.gives((3, [(5, 5), (2, 2)]), counted, tree, (None, None, 5, 5))
        self.gives((2, [(5, 5), (2, 2), (1, 1)]), counted, tree, (None, None, 4, 5))
        self.gives((2, [(5, 5), (2, 2), (1, 1)]), counted, tree, (None, None, 5, 4))

    def test_all_small_rectangles(self):
        for points in [[(1, 1), (0, 0), (2, 0), (0, 2), (2, 2)], [(1, 1), (1, 0), (0, 1), (2, 1), (1, 2)],
                       [(0, 2), (1, 1), (2, 0), (2, 2)], [(0, 0), (2, 2), (1, 1), (1, 0), (0, 1), (2, 1)]]:
            for rectangle in SMALL_RECTANGLES:
                self.like_naive(counted, naive.counted, naive.build(points), rectangle)

    def test_many(self):
        generator = random.Random(32)
        for tree in random_trees(4, 150, 34):
            for turn in range(20):
                rectangle = random_rectangle(generator)
                self.like_naive(counted, naive.counted, tree, rectangle)
                self.assertEqual(counted(tree, rectangle)[0], len(ranged(tree, rectangle)[0]))

    def test_chains(self):
        for part, (step_x, step_y) in enumerate(STEPS):
            points = line(500, step_x, step_y)
            self.gives((500, points[:1]), counted, long_chain(part, 500), ALL)
            x, y = points[250]
            rectangle = (x if step_x > 0 else None, y if step_y > 0 else None,
                         None if step_x > 0 else x, None if step_y > 0 else y)
            self.gives((250, points[:252]), counted, long_chain(part, 500), rectangle)
            self.gives((500, points), counted, long_chain(part, 500), (-600, -600, 600, 600))

    def test_far(self):
        tree = node((0, 0), node((-FAR, -FAR)), None, None, node((FAR, FAR)))
        self.gives((3, [(0, 0), (-FAR, -FAR), (FAR, FAR)]), counted, tree, (-FAR_END, -FAR_END, FAR_END, FAR_END))

    def test_by_name(self):
        self.assertEqual(counted(rectangle=ALL, tree=((1, 2), LEAF)), (1, [(1, 2)]))


class NearestTest(SearchCase):

    def test_none(self):
        self.gives((None, []), nearest, None, (0, 0))

    def test_one_point(self):
        self.gives(((1, 2), [(1, 2)]), nearest, ((1, 2), LEAF), (1, 2))
        self.gives(((1, 2), [(1, 2)]), nearest, ((1, 2), LEAF), (FAR, -FAR))

    def test_example(self):
        self.gives(((3, 3), [(0, 0), (1, 1), (2, 2), (3, 3)]), nearest, naive.build(line(4, 1, 1)), (5, 5))

    def test_first_of_equally_near_points(self):
        tree = node((0, 0), None, None, None, node((4, 0)))
        self.gives(((0, 0), [(0, 0), (4, 0)]), nearest, tree, (2, 0))
        tree = node((50, 50), node((4, 0)), None, None, None)
        self.gives(((4, 0), [(50, 50), (4, 0)]), nearest, tree, (2, 0))

    def test_equal_gaps_by_number(self):
        tree = node((0, 0), node((-9, -9)), node((9, -9)), node((-9, 9)), node((9, 9)))
        self.gives(((0, 0), [(0, 0)]), nearest, tree, (0, 0))
        tree = node((0, 0), node((-1, -1)), node((1, -1)), node((-1, 1)), node((9, 9)))
        self.gives(((0, 0), [(0, 0), (9, 9), (1, -1), (-1, 1)]), nearest, tree, (2, 2))
        self.gives(((1, -1), [(0, 0), (1, -1), (9, 9)]), nearest, tree, (3, 0))
        tree = node((0, 0), node((-9, -9)), node((9, -9)), node((-9, 9)), node((9, 9)))
        self.gives(((0, 0), [(0, 0), (9, -9), (9, 9)]), nearest, tree, (3, 0))
        self.gives(((0, 0), [(0, 0), (-9, 9), (9, 9)]), nearest, tree, (0, 3))
        self.gives(((0, 0), [(0, 0), (-9, -9), (9, -9)]), nearest, tree, (0, -3))

    def test_parts_in_the_order_of_their_gaps(self):
        tree = node((0, 0), node((-90, -90)), node((90, -90)), node((-90, 90)), node((90, 90)))
        self.gives(((0, 0), [(0, 0), (90, -90), (90, 90), (-90, -90)]), nearest, tree, (3, -1))
        self.gives(((0, 0), [(0, 0), (-90, 90), (90, 90), (-90, -90)]), nearest, tree, (-1, 3))
        self.gives(((0, 0), [(0, 0), (-90, -90), (-90, 90), (90, -90)]), nearest, tree, (-3, -1))

    def test_left_out_when_its_turn_comes(self):
        tree = node((10, 10), node((9, 9)), node((20, 9)), node((0, 11)), node((30, 30)))
        self.gives(((9, 9), [(10, 10), (9, 9)]), nearest, tree, (9, 9))
        self.gives(((9, 9), [(10, 10), (9, 9)]), nearest, tree, (9, 8))
        self.gives(((9, 9), [(10, 10), (9, 9), (20, 9)]), nearest, tree, (8, 7))

    def test_gap_equal_to_the_least_distance(self):
        tree = node((0, 0), None, node((3, -1)), None, node((4, 2)))
        self.gives(((4, 2), [(0, 0), (4, 2)]), nearest, tree, (4, 1))
        tree = node((0, 0), None, node((3, -1)), None, node((4, 4)))
        self.gives(((3, -1), [(0, 0), (4, 4), (3, -1)]), nearest, tree, (3, 1))

    def test_all_small_questions(self):
        questions = [(x, y) for x in range(-2, 8) for y in range(-2, 8)]
        for tree in random_trees(5, 60, 12):
            for point in questions:
                self.like_naive(nearest, naive.nearest, tree, point)

    def test_many(self):
        for tree in random_trees(6, 60, 36):
            for point in GRID:
                self.like_naive(nearest, naive.nearest, tree, point)

    def test_best_is_nearest(self):
        for tree in random_trees(7, 40, 20):
            for point in GRID[::5]:
                best, visited = nearest(tree, point)
                far = [naive.distance(point, other) for path, other in naive.nodes(tree)]
                self.assertEqual(None if best is None else naive.distance(point, best), min(far, default=None))

    def test_chains(self):
        for part, (step_x, step_y) in enumerate(STEPS):
            points = line(500, step_x, step_y)
            far = (FAR * step_x, FAR * step_y)
            self.gives((points[-1], points), nearest, long_chain(part, 500), far)
            self.gives((points[0], points[:1]), nearest, long_chain(part, 500), points[0])
            self.gives((points[250], points[:251]), nearest, long_chain(part, 500), points[250])

    def test_by_name(self):
        self.assertEqual(nearest(point=(0, 0), tree=((1, 2), LEAF)), ((1, 2), [(1, 2)]))


class WrongArgumentsTest(SearchCase):

    def test_trees(self):
        for path, value in NO_TREES:
            for right in (ALL, None, [0]):
                self.fails_at_tree(path, ranged, value, right)
                self.fails_at_tree(path, counted, value, right)
            for right in ((0, 0), None, [0]):
                self.fails_at_tree(path, nearest, value, right)

    def test_too_many_nodes(self):
        for part in range(4):
            for search, right in [(ranged, ALL), (counted, ALL), (nearest, (0, 0)), (nearest, None)]:
                self.fails_at_tree((part,) * 500, search, long_chain(part, 501), right)

    def test_rectangles(self):
        for value in NO_RECTANGLES:
            for tree in (None, TREE, long_chain(3, 500)):
                self.fails_at_rectangle(value, ranged, tree, value)
                self.fails_at_rectangle(value, counted, tree, value)

    def test_points(self):
        for value in NO_POINTS:
            for tree in (None, TREE, long_chain(3, 500)):
                self.fails_at_point(value, nearest, tree, value)

    def test_trees_stay(self):
        for search, right in [(ranged, (0, 0, 8, 8)), (counted, (0, 0, 8, 8)), (nearest, (7, 7))]:
            tree = naive.build([point for path, point in naive.nodes(TREE)])
            search(tree, right)
            self.assertEqual(tree, TREE)


if __name__ == "__main__":
    unittest.main()
