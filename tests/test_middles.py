"""Tests of the middle trees [8.1] to [8.6]."""

import random
import time
import unittest

import naive_middles as naive
from asking import Case
from planesplits import errors
from planesplits.middles import (height, in_order, is_even, is_middle, middle, middle_counted, middle_nearest,
                                 middle_ranged, put, put_evenly, taken, useless_visits)
from samples import (FAR, FAR_END, NO_MIDDLE_TREES, NO_POINTS, WRONG_MIDDLES, WRONG_POINT, WRONG_POINTS,
                     WRONG_RECTANGLES, drawn_rectangle, line, no_numbers, side_chain)

ALL = (None, None, None, None)
LEFT = ((1, 2), ((4, 1), None, None), ((0, 7), None, None))
TREE = ((5, 5), LEFT, ((9, 9), ((8, 8), None, None), None))
MORE = ((5, 5), LEFT, ((9, 9), ((8, 8), ((6, 9), None, None), None), None))


def drawn_points(generator, many, side):
    return generator.sample([(x, y) for x in range(side) for y in range(side)], many)


def drawn_tree(generator, points):
    """Return a tree of points, put in one after another, or built, or some of both."""
    built = generator.randrange(len(points) + 1)
    tree = naive.build(points[:built])
    for point in points[built:]:
        tree = naive.put(tree, point)
    return tree


def drawn_trees(many, seed, side=5):
    generator = random.Random(seed)
    for turn in range(many):
        points = drawn_points(generator, generator.randrange(14), side)
        yield generator, points, drawn_tree(generator, points)


class MiddleTest(Case):

    def test_few(self):
        self.gives(None, middle, [])
        self.gives(None, middle, ())
        self.gives(((3, -4), None, None), middle, [(3, -4)])
        self.gives(((2, 1), ((1, 5), None, None), ((3, 4), None, None)), middle, [(1, 5), (2, 1), (3, 4)])
        self.gives(((1, 0), ((0, 0), None, None), None), middle, ((1, 0), (0, 0)))
        # With the same x the y decides, and the other way round below.
        self.gives(((0, 2), ((0, 1), ((0, 0), None, None), None), ((0, 3), None, None)),
                   middle, [(0, 3), (0, 0), (0, 2), (0, 1)])
        self.gives(((FAR, 0), ((-FAR, 0), None, None), None), middle, [(FAR, 0), (-FAR, 0)])

    def test_against_the_words(self):
        for generator, points, tree in drawn_trees(300, 1):
            self.gives(naive.build(points), middle, points)
            self.gives(naive.build(points), middle, tuple(points[::-1]))

    def test_500_points(self):
        points = [(k * 7919 % 500, k * 104729 % 499) for k in range(500)]
        told = middle(points)
        self.assertEqual(told, naive.build(points))
        self.assertEqual((height(told), is_even(told)), (9, True))
        start = time.perf_counter()
        for turn in range(20):
            middle(points)
            middle(line(500, 0, 1))
        self.assertLess(time.perf_counter() - start, 2)

    def test_by_name(self):
        self.assertEqual(middle(points=[(1, 1)]), ((1, 1), None, None))

    def test_wrong(self):
        self.fails_in_order(middle, [[(0, 0)]], [WRONG_POINTS])


class IsMiddleTest(Case):

    def test_trees(self):
        for tree in (None, TREE, MORE, side_chain(500)):
            self.assertIs(is_middle(tree), True)
        for generator, points, tree in drawn_trees(200, 2):
            self.assertIs(is_middle(tree), True)

    def test_others(self):
        for path, value in NO_MIDDLE_TREES:
            self.assertIs(is_middle(value), False)
            self.fails_at_tree(path, in_order, value)
        self.assertIs(is_middle(value=TREE), True)

    def test_each_swap_of_two_points(self):
        generator = random.Random(3)
        for turn in range(200):
            points = drawn_points(generator, 6, 4)
            tree = naive.build(points)
            one, other = generator.sample(points, 2)
            swapped = self.with_others(tree, {one: other, other: one})
            self.assertIs(is_middle(swapped), naive.fault(swapped) is None)
            if naive.fault(swapped) is not None:
                self.fails_at_tree(naive.fault(swapped), height, swapped)

    def with_others(self, tree, others):
        if tree is None:
            return None
        return (others.get(tree[0], tree[0]), self.with_others(tree[1], others), self.with_others(tree[2], others))

    def test_501_nodes(self):
        self.assertIs(is_middle(put(side_chain(500), (500, 500))), False)
        self.fails_at_tree((1,) * 500, in_order, side_chain(501))
        self.fails_at_tree((1,) * 500, in_order, side_chain(600))
        # The 501st node in reading order is at fault, whatever it is.
        for many, path in ((498, (1, 0)), (499, (1,))):
            low = naive.build([(-1 - k, 0) for k in range(many)], 1)
            self.fails_at_tree(path, in_order, ((0, 0), low, ((1, 1), ((1, 0), None, None), None)))
            self.fails_at_tree(path, in_order, ((0, 0), low, ((1, 1), "", None) if many == 498 else ""))

    def test_is_even(self):
        for tree in (None, ((3, 3), None, None), middle([(0, 0), (1, 1)]), TREE, middle(line(500, 1, 1))):
            self.gives(True, is_even, tree)
        for tree in (((0, 0), None, ((1, 1), None, None)), MORE, side_chain(2), side_chain(500)):
            self.gives(False, is_even, tree)
        for generator, points, tree in drawn_trees(300, 4):
            self.gives(tree == naive.build(points), is_even, tree)
            self.gives(True, is_even, naive.build(points))
        self.assertIs(is_even(tree=None), True)
        self.fails_in_order(is_even, [TREE], [WRONG_MIDDLES])


class OrderTest(Case):

    def test_in_order(self):
        self.gives([], in_order, None)
        self.gives([(5, 5), (1, 2), (4, 1), (0, 7), (9, 9), (8, 8)], in_order, TREE)
        self.gives(line(500, 1, 1), in_order, side_chain(500))
        self.assertEqual(in_order(tree=((1, 2), None, ((4, 1), None, None))), [(1, 2), (4, 1)])
        for generator, points, tree in drawn_trees(100, 5):
            self.gives(naive.points_of(tree), in_order, tree)
        self.fails_in_order(in_order, [TREE], [WRONG_MIDDLES])

    def test_height(self):
        self.gives(0, height, None)
        self.gives(1, height, ((0, 0), None, None))
        self.gives(3, height, TREE)
        self.gives(500, height, side_chain(500))
        self.assertEqual(height(tree=MORE), 4)
        for generator, points, tree in drawn_trees(100, 6):
            self.gives(max([len(path) + 1 for path, node in naive.nodes(tree)], default=0), height, tree)
        self.fails_in_order(height, [TREE], [WRONG_MIDDLES])


class PutTest(Case):

    def test_few(self):
        self.gives(((1, 1), None, None), put, None, (1, 1))
        self.gives(((1, 1), ((1, 0), None, None), None), put, ((1, 1), None, None), (1, 0))
        self.gives(((1, 1), None, ((1, 2), None, None)), put, ((1, 1), None, None), (1, 2))
        self.gives(MORE, put, TREE, (6, 9))

    def test_against_the_words(self):
        for generator, points, tree in drawn_trees(200, 7):
            for point in drawn_points(generator, 6, 5):
                if point in points:
                    self.fails(errors.AlreadyThere, "point", point, put, tree, point)
                else:
                    self.gives(naive.put(tree, point), put, tree, point)

    def test_501st(self):
        told = put(side_chain(500), (500, 500))
        self.assertEqual(len(naive.nodes(told)), 501)
        self.assertEqual(naive.nodes(told)[-1], ((1,) * 500, ((500, 500), None, None)))
        self.fails_at_tree((1,) * 500, put, told, (0, 0))
        self.fails(errors.AlreadyThere, "point", (499, 499), put, side_chain(500), (499, 499))

    def test_by_name(self):
        self.assertEqual(put(point=(1, 1), tree=None), ((1, 1), None, None))

    def test_wrong(self):
        self.fails_in_order(put, [TREE, (7, 7)], [WRONG_MIDDLES, WRONG_POINT])
        self.fails_in_order(taken, [TREE, (8, 8)], [WRONG_MIDDLES, WRONG_POINT])


class TakenTest(Case):

    def test_few(self):
        self.gives(None, taken, ((1, 1), None, None), (1, 1))
        self.gives(((4, 1), ((0, 7), ((1, 2), None, None), None), ((9, 9), ((8, 8), None, None), None)),
                   taken, TREE, (5, 5))
        self.gives(((5, 5), ((0, 7), ((4, 1), None, None), None), TREE[2]), taken, TREE, (1, 2))
        for point in ((0, 0), (5, 4), (8, 9)):
            self.fails(errors.NotThere, "point", point, taken, TREE, point)
        self.fails(errors.NotThere, "point", (0, 0), taken, None, (0, 0))

    def test_against_the_words(self):
        for generator, points, tree in drawn_trees(200, 8):
            for point in drawn_points(generator, 8, 5):
                if point in points:
                    self.gives(naive.taken(tree, point), taken, tree, point)
                else:
                    self.fails(errors.NotThere, "point", point, taken, tree, point)

    def test_deep(self):
        told = taken(side_chain(500), (0, 0))
        self.assertEqual(told, naive.build(line(500, 1, 1)[1:]))
        self.assertEqual(in_order(taken(side_chain(500), (499, 499))), line(499, 1, 1))
        # Below a node of the axis y the tree is built beginning with y.
        tree = side_chain(5)
        self.assertEqual(taken(tree, (1, 1)), ((0, 0), None, naive.build(line(5, 1, 1)[2:], 1)))

    def test_by_name(self):
        self.assertIsNone(taken(point=(1, 1), tree=((1, 1), None, None)))


class PutEvenlyTest(Case):

    def test_few(self):
        self.gives(((1, 1), None, None), put_evenly, None, (1, 1), 2, 3)
        # The high side of the root has 2 of 3 points, which is not more than 2 / 3.
        chain = side_chain(2)
        self.gives(side_chain(3), put_evenly, chain, (2, 2), 2, 3)
        # 3 of 4 points are more than 2 / 3.
        self.gives(naive.build(line(4, 1, 1)), put_evenly, side_chain(3), (3, 3), 2, 3)
        self.gives(side_chain(4), put_evenly, side_chain(3), (3, 3), 3, 4)

    def test_against_the_words(self):
        for generator, points, tree in drawn_trees(400, 9):
            bottom = generator.choice([3, 4, 5, 7, 10, 1000])
            top = generator.choice([bottom // 2 + 1, bottom - 1, generator.randrange(bottom // 2 + 1, bottom)])
            for point in drawn_points(generator, 4, 5):
                if point in points:
                    self.fails(errors.AlreadyThere, "point", point, put_evenly, tree, point, top, bottom)
                else:
                    self.gives(naive.put_evenly(tree, point, top, bottom), put_evenly, tree, point, top, bottom)

    def test_the_first_node_only(self):
        # The root is even enough; below it two nodes are not, of which the first one is built anew.
        tree = ((0, 0), naive.build(line(9, -1, -1)[1:], 1), naive.put(naive.put(None, (1, 1), 1), (2, 2), 1))
        told = put_evenly(put(tree, (3, 3)), (4, 4), 3, 5)
        self.assertEqual(told, (tree[0], tree[1], naive.build([(1, 1), (2, 2), (3, 3), (4, 4)], 1)))

    def test_deep(self):
        told = put_evenly(side_chain(500), (500, 500), 999, 1000)
        # A root with a side of 500 nodes has less than 999 / 1000 of them there; so it stays, and so do all others.
        self.assertEqual(naive.points_of(told), line(501, 1, 1))
        self.assertEqual(naive.nodes(told)[-1][0], (1,) * 500)
        self.assertEqual(put_evenly(side_chain(500), (500, 500), 499, 500), naive.build(line(501, 1, 1)))

    def test_stays_flat(self):
        tree = None
        for point in line(200, 1, -1):
            tree = put_evenly(tree, point, 2, 3)
        self.assertLess(height(tree), 16)
        self.assertEqual(sorted(in_order(tree)), line(200, 1, -1))

    def test_by_name(self):
        self.assertEqual(put_evenly(bottom=3, top=2, point=(1, 1), tree=None), ((1, 1), None, None))

    def test_wrong(self):
        for path, value in NO_MIDDLE_TREES:
            self.fails_at_tree(path, put_evenly, value, None, None, None)
        for value in NO_POINTS:
            self.fails_at_point(value, put_evenly, TREE, value, None, None)
        for value in no_numbers(3, 1000):
            self.fails_at_number("bottom", put_evenly, TREE, (5, 5), None, value)
            self.fails_at_number("bottom", put_evenly, TREE, (7, 7), 2, value)
        for bottom in (3, 4, 5, 1000):
            for value in no_numbers(bottom // 2 + 1, bottom - 1):
                self.fails_at_number("top", put_evenly, TREE, (5, 5), value, bottom)
                self.fails_at_number("top", put_evenly, TREE, (7, 7), value, bottom)
        self.fails(errors.AlreadyThere, "point", (5, 5), put_evenly, TREE, (5, 5), 2, 3)


class SearchesTest(Case):

    def test_few(self):
        self.gives(([], []), middle_ranged, None, ALL)
        self.gives((0, []), middle_counted, None, ALL)
        self.gives((None, []), middle_nearest, None, (0, 0))
        self.gives((in_order(TREE), in_order(TREE)), middle_ranged, TREE, ALL)
        self.gives((6, [(5, 5)]), middle_counted, TREE, ALL)
        self.gives(([], [(5, 5), (1, 2), (4, 1)]), middle_ranged, TREE, (None, None, 4, 0))
        self.gives(((8, 8), [(5, 5), (9, 9), (8, 8)]), middle_nearest, TREE, (8, 8))

    def test_against_the_words(self):
        for generator, points, tree in drawn_trees(600, 10):
            for turn in range(5):
                rectangle = drawn_rectangle(generator, -1, 5)
                self.gives(naive.ranged(tree, rectangle), middle_ranged, tree, rectangle)
                self.gives(naive.counted(tree, rectangle), middle_counted, tree, rectangle)
                point = (generator.randrange(-1, 6), generator.randrange(-1, 6))
                self.gives(naive.nearest(tree, point), middle_nearest, tree, point)

    def test_equal_distances(self):
        tree = ((0, 0), ((-1, 0), None, None), ((1, 0), None, None))
        self.gives(((0, 0), [(0, 0)]), middle_nearest, tree, (0, 0))
        # Both boxes have the distance 0: the low side comes first, though its point is no nearer.
        tree = ((0, 9), ((-3, 0), None, None), ((3, 0), None, None))
        self.gives(((-3, 0), [(0, 9), (-3, 0), (3, 0)]), middle_nearest, tree, (0, 0))
        self.gives(((3, 0), [(0, 9), (3, 0), (-3, 0)]), middle_nearest, tree, (1, 0))
        self.gives(((3, 0), [(0, 9), (3, 0)]), middle_nearest, tree, (2, 0))

    def test_far(self):
        tree = middle([(-FAR, -FAR), (FAR, FAR), (0, 0)])
        self.gives(((FAR, FAR), [(0, 0), (FAR, FAR)]), middle_nearest, tree, (FAR, FAR))
        self.gives(([], [(0, 0), (FAR, FAR)]), middle_ranged, tree, (FAR_END, FAR_END, None, None))
        everything = (-FAR_END, -FAR_END, FAR_END, FAR_END)
        self.gives((3, [(0, 0), (-FAR, -FAR), (FAR, FAR)]), middle_counted, tree, everything)

    def test_deep(self):
        chain = side_chain(500)
        points = line(500, 1, 1)
        self.gives((points[:7], points[:8]), middle_ranged, chain, (None, None, 6, 6))
        self.gives((500, points[:2]), middle_counted, chain, (-1, None, None, None))
        self.gives((499, points), middle_counted, chain, (None, None, 498, 498))
        self.gives(((499, 499), points), middle_nearest, chain, (600, 600))

    def test_useless_visits(self):
        self.gives(0, useless_visits, [], ALL)
        self.gives(0, useless_visits, [(1, 1)], ALL)
        self.gives(1, useless_visits, ((1, 1),), (2, 2, 3, 3))
        for generator, points, tree in drawn_trees(300, 11):
            rectangle = drawn_rectangle(generator, -1, 5)
            wanted = naive.useless(naive.build(points), rectangle)
            self.gives(wanted, useless_visits, points, rectangle)
            self.gives(wanted, useless_visits, tuple(points), rectangle)
        self.fails_in_order(useless_visits, [[(0, 0)], ALL], [WRONG_POINTS, WRONG_RECTANGLES])

    def test_quick(self):
        points = [(k * 7919 % 500, k * 104729 % 499) for k in range(500)]
        tree = middle(points)
        start = time.perf_counter()
        for turn in range(50):
            middle_ranged(tree, (3, None, 400, 300))
            middle_counted(tree, (3, None, 400, 300))
            middle_nearest(tree, (turn, turn))
            useless_visits(points, (3, None, 400, 300))
        self.assertLess(time.perf_counter() - start, 4)

    def test_by_name(self):
        self.assertEqual(middle_ranged(rectangle=ALL, tree=None), ([], []))
        self.assertEqual(middle_counted(rectangle=ALL, tree=None), (0, []))
        self.assertEqual(middle_nearest(point=(0, 0), tree=None), (None, []))
        self.assertEqual(useless_visits(rectangle=ALL, points=[]), 0)

    def test_wrong(self):
        for function in (middle_ranged, middle_counted):
            self.fails_in_order(function, [TREE, ALL], [WRONG_MIDDLES, WRONG_RECTANGLES])
        self.fails_in_order(middle_nearest, [TREE, (0, 0)], [WRONG_MIDDLES, WRONG_POINT])


if __name__ == "__main__":
    unittest.main()
