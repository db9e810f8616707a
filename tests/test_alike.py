"""Tests of the trees that no rectangle tells apart [12.1] to [12.3]."""

import itertools
import random
import time
import unittest

import naive
import naive_alike
import naive_middles
from asking import Case
from planesplits import errors
from planesplits.alike import all_trees, boxes, groups, is_alike, parting, signature, visits
from planesplits.middles import middle
from planesplits.orders import count_trees
from planesplits.quarters import built
from planesplits.searches import ranged
from samples import (FAR, NO_MIDDLE_TREES, NO_POINT_LISTS, NO_TREES, NOTHING_WANTED, TREE, WRONG_RECTANGLES, line,
                     long_chain, node, side, side_chain, wrong)

ALL = (None, None, None, None)
ONE, OTHER = built([(0, 0), (1, 1)]), built([(1, 1), (0, 0)])
SIDES = ((5, 5), ((1, 2), ((4, 1), None, None), None), ((9, 9), None, None))
# What is a tree of neither kind. (None is a tree.)
NO_TREES_AT_ALL = [value for path, value in NO_TREES if not (isinstance(value, tuple) and len(value) == 3)] + [
    value for path, value in NO_MIDDLE_TREES if not (isinstance(value, tuple) and len(value) == 2)] + [
    long_chain(3, 501), side_chain(501), side((0, 0), node((-1, -1))), node((0, 0), side((-1, -1)))]
WRONG_TREES = wrong(NO_TREES_AT_ALL, errors.InvalidTree, "path", ())
NUMBERS = [None, -1, 0, 1, 2, 3]
RECTANGLES = [(x, y, x2, y2) for x, y, x2, y2 in itertools.product(NUMBERS, repeat=4)
              if (x is None or x2 is None or x <= x2) and (y is None or y2 is None or y <= y2)]


def drawn_tree(generator, many=5, side=3):
    points = generator.sample([(x, y) for x in range(side) for y in range(side)], generator.randrange(many))
    if generator.random() < 0.4:
        return naive.build(points)
    tree = None
    for point in points:
        tree = naive_middles.put(tree, point)
    return tree


class BoxesTest(Case):

    def test_few(self):
        self.gives([], boxes, None)
        self.gives([ALL], boxes, built([(7, 7)]))
        self.gives([ALL], boxes, middle([(7, 7)]))
        self.gives([ALL, (0, 0, None, None)], boxes, ONE)
        self.gives([ALL, (None, None, 1, 1)], boxes, OTHER)
        self.gives([ALL, (None, None, 5, None), (None, None, 5, 2), (5, None, None, None)], boxes, SIDES)
        self.gives([ALL, (None, -FAR, FAR, None)], boxes, built([(FAR, -FAR), (-FAR, FAR)]))

    def test_against_the_words(self):
        generator = random.Random(1)
        for turn in range(400):
            tree = drawn_tree(generator, 12, 5)
            self.gives(naive_alike.boxes(tree), boxes, tree)
            self.gives(naive_alike.signature(tree), signature, tree)
            for rectangle in generator.sample(RECTANGLES, 10):
                self.gives(naive_alike.visits(tree, rectangle), visits, tree, rectangle)

    def test_visits(self):
        self.gives(0, visits, None, ALL)
        self.gives(4, visits, SIDES, ALL)
        self.gives(1, visits, ONE, (None, None, -1, None))
        self.gives(2, visits, ONE, (None, None, 0, None))
        tree = built([(k * 7919 % 500, k * 104729 % 499) for k in range(500)])
        for rectangle in ((5, 5, 5, 5), (None, 100, 30, None), (0, 0, 499, 498)):
            self.assertEqual(visits(tree, rectangle), len(ranged(tree, rectangle)[1]))

    def test_signature(self):
        self.gives((0, ([], [], [], []), ([], [], [], [])), signature, None)
        self.gives((1, ([], [], [], []), ([], [], [], [])), signature, middle([(7, 7)]))
        self.gives((2, ([0], [0], [], []), ([(0, 0)], [], [], [])), signature, ONE)
        self.gives((4, ([5], [], [5, 5], [2]), ([], [], [], [(5, 2)])), signature, SIDES)

    def test_deep(self):
        start = time.perf_counter()
        for tree in (long_chain(3, 500), side_chain(500)):
            self.assertEqual(len(boxes(tree)), 500)
            self.assertEqual(visits(tree, (None, None, 10, 10)), 12)
            self.assertEqual(signature(tree)[0], 500)
            self.assertTrue(is_alike(tree, tree))
            self.assertIsNone(parting(tree, tree))
        self.assertFalse(is_alike(long_chain(3, 500), side_chain(500)))
        told = parting(long_chain(3, 500), side_chain(500))
        self.assertEqual(told, naive_alike.parting(long_chain(3, 9), side_chain(9)))
        self.assertLess(time.perf_counter() - start, 2)

    def test_by_name(self):
        self.assertEqual(boxes(tree=None), [])
        self.assertEqual(visits(rectangle=ALL, tree=None), 0)
        self.assertEqual(signature(tree=None)[0], 0)

    def test_wrong(self):
        for function in (boxes, signature):
            self.fails_in_order(function, [TREE], [WRONG_TREES])
        self.fails_in_order(visits, [SIDES, ALL], [WRONG_TREES, WRONG_RECTANGLES])


class AlikeTest(Case):

    def test_against_all_rectangles(self):
        generator = random.Random(2)
        alike = 0
        for turn in range(1500):
            one, other = drawn_tree(generator), drawn_tree(generator)
            same = all(visits(one, rectangle) == visits(other, rectangle) for rectangle in RECTANGLES)
            alike += same
            self.assertIs(is_alike(one, other), same)
            self.assertIs(signature(one) == signature(other), same)
            told = parting(one, other)
            self.assertEqual(told, naive_alike.parting(one, other))
            self.assertIs(told is None, same)
        self.assertGreater(alike, 50)

    def test_few(self):
        self.gives(True, is_alike, None, None)
        self.gives(True, is_alike, built([(1, 1)]), middle([(9, 9)]))
        self.gives(None, parting, built([(1, 1)]), middle([(9, 9)]))
        self.gives(False, is_alike, None, ONE)
        self.gives(ALL, parting, None, ONE)
        self.gives(False, is_alike, ONE, OTHER)
        self.gives((None, None, -1, None), parting, ONE, OTHER)
        self.gives((None, None, -1, None), parting, OTHER, ONE)
        # The same ends, but not the same corners.
        one = built([(0, 0), (1, -1), (-1, 1)])
        other = built([(0, 0), (1, 1), (-1, -1)])
        self.gives((None, None, -1, -1), parting, one, other)
        self.gives(False, is_alike, one, other)

    def test_each_kind_of_candidate(self):
        generator = random.Random(3)
        seen = set()
        trees = [drawn_tree(generator, 5, 4) for turn in range(1200)]
        for one in trees[:60]:
            for other in trees:
                if (one is None) != (other is None) or len(boxes(one)) != len(boxes(other)):
                    continue
                told = parting(one, other)
                if told is not None:
                    seen.add(tuple([end is not None for end in told]))
                    self.assertEqual(told, naive_alike.parting(one, other))
                    self.assertNotEqual(visits(one, told), visits(other, told))
        ends = [tuple([k == at for k in range(4)]) for at in range(4)]
        self.assertTrue(set(ends) <= seen)

    def test_each_corner(self):
        # Roots with the same ends around them, but other corners.
        for shape in itertools.product(range(4), repeat=4):
            points = [(0, 7), (-2, 5), (2, 5), (-2, 9), (2, 9)]
            one = built([points[0]] + [points[1 + k] for k in sorted(set(shape[:2]))])
            other = built([points[0]] + [points[1 + k] for k in sorted(set(shape[2:]))])
            self.gives(naive_alike.parting(one, other), parting, one, other)
        one = naive.build([(0, 7), (9, 16), (20, 10), (3, 27)])
        other = naive.build([(0, 7), (9, 16), (3, 10), (20, 27)])
        self.gives(naive_alike.parting(one, other), parting, one, other)
        self.assertEqual(len([end for end in parting(one, other) if end is not None]), 2)

    def test_far(self):
        one, other = built([(FAR, FAR), (0, 0)]), built([(0, 0), (FAR, FAR)])
        self.gives((None, None, -1, None), parting, one, other)
        one, other = built([(FAR, 0), (-FAR, 1)]), built([(FAR - 1, 0), (-FAR, 1)])
        self.gives(naive_alike.parting(one, other), parting, one, other)
        self.gives((FAR, None, None, None), parting, one, other)

    def test_by_name(self):
        self.assertIs(is_alike(other=None, one=None), True)
        self.assertEqual(parting(other=ONE, one=OTHER), (None, None, -1, None))

    def test_wrong(self):
        for function in (is_alike, parting):
            self.fails_in_order(function, [TREE, SIDES], [WRONG_TREES, WRONG_TREES])


class GroupsTest(Case):

    def test_groups(self):
        self.gives([], groups, [])
        self.gives([], groups, ())
        self.gives([[0]], groups, [None])
        self.gives([[0, 2], [1], [3, 5], [4]], groups, [ONE, OTHER, ONE, None, built([(3, 3)]), None])
        self.gives([[0, 1]], groups, (middle([(3, 3)]), built([(4, 4)])))
        self.gives([list(range(60))], groups, [built([(k, k)]) for k in range(60)])
        self.assertEqual(groups(trees=[None]), [[0]])

    def test_against_the_words(self):
        generator = random.Random(4)
        for turn in range(30):
            trees = [drawn_tree(generator) for k in range(generator.randrange(61))]
            wanted = []
            for index, tree in enumerate(trees):
                row = [row for row in wanted if is_alike(trees[row[0]], tree)]
                if row:
                    row[0].append(index)
                else:
                    wanted.append([index])
            self.gives(wanted, groups, trees)
            self.gives(wanted, groups, tuple(trees))

    def test_wrong(self):
        for value in NOTHING_WANTED + [None, 0, [None] * 61, (None,) * 61, [""] * 61]:
            self.fails_at_tree((-1,), groups, value)
        for value in NO_TREES_AT_ALL:
            self.fails_at_tree((0,), groups, [value])
            self.fails_at_tree((2,), groups, (None, ONE, value, "", SIDES))
        self.fails_at_tree((59,), groups, [SIDES] * 59 + [0])
        # A quarter tree is a tuple itself, but the point in it is no tree.
        self.fails_at_tree((0,), groups, ONE)

    def test_60_large_trees(self):
        trees = [built([(k * 7919 % 500, k * (turn + 2) % 499) for k in range(500)]) for turn in range(60)]
        start = time.perf_counter()
        told = groups(trees)
        self.assertLess(time.perf_counter() - start, 3)
        self.assertEqual(sum(told, []), list(range(60)))


class AllTreesTest(Case):

    def test_few(self):
        self.gives([None], all_trees, [])
        self.gives([node((3, 3))], all_trees, ((3, 3),))
        self.gives([ONE, OTHER], all_trees, [(1, 1), (0, 0)])

    def test_against_the_words(self):
        generator = random.Random(5)
        for turn in range(120):
            points = generator.sample([(x, y) for x in range(4) for y in range(4)], generator.randrange(6))
            wanted = naive_alike.all_trees(points)
            self.gives(wanted, all_trees, points)
            self.gives(wanted, all_trees, tuple(points))
            self.assertEqual(len(wanted), count_trees(points))
            by_orders = {repr(naive.build(order)) for order in itertools.permutations(points)}
            self.assertEqual({repr(tree) for tree in wanted}, by_orders)

    def test_by_name(self):
        self.assertEqual(all_trees(points=[]), [None])

    def test_wrong(self):
        for index, value in NO_POINT_LISTS:
            self.fails_at_points(index, all_trees, value)
        self.too_large(5, all_trees, line(6, 1, 1))
        self.too_large(5, all_trees, tuple(line(500, 1, 1)))
        self.assertEqual(len(all_trees(line(5, 1, 1))), 42)


if __name__ == "__main__":
    unittest.main()
