"""Tests of the orders of insertion [4.1], [4.2], [4.3]."""

import itertools
import math
import random
import time
import unittest
from fractions import Fraction

import naive
import naive_orders
from asking import Case
from planesplits import errors
from planesplits.orders import (count_orders, count_trees, depths_of, least_tree, lightest_tree, mean_sum, needed_depth,
                                number_of, order_at, rising, shallow_tree)
from planesplits.quarters import built, depth, is_quarter, points_of
from samples import (LEAF, NO_POINTS, NOTHING_WANTED, STEPS, WRONG_POINTS, WRONG_TREES, line, long_chain, no_numbers,
                     node, stairs, wrong, wrong_numbers, wrong_pairs)

GRID = [(x, y) for x in range(4) for y in range(4)]
THREE = [(4, 4), (1, 1), (6, 2), (2, 3)]
STAR = node((5, 5), node((1, 1)), node((9, 1)), node((1, 9)), node((9, 9)))


def sets(many, most, seed):
    generator = random.Random(seed)
    return [generator.sample(GRID, generator.randrange(most + 1)) for turn in range(many)]


def drawn(many):
    return random.Random(many).sample([(x, y) for x in range(30) for y in range(30)], many)


def two_arms(many):
    """Return points whose tree has two chains below its root, so that there are very many orders."""
    return [(0, 0)] + [(k, k) if k % 2 == 1 else (-k, -k) for k in range(1, many)]


class CountOrdersTest(Case):

    def test_few(self):
        self.gives(1, count_orders, None)
        self.gives(1, count_orders, ((0, 0), LEAF))
        self.gives(3, count_orders, built(THREE))
        self.gives(24, count_orders, STAR)

    def test_against_all_orders(self):
        for points in sets(60, 6, 1):
            tree = naive.build(points)
            self.gives(len(naive_orders.orders(tree)), count_orders, tree)

    def test_they_add_up(self):
        for points in sets(10, 6, 2):
            counts = [count_orders(tree) for tree in naive_orders.trees(points)]
            self.assertEqual(sum(counts), math.factorial(len(points)))

    def test_200_and_201(self):
        for part, (step_x, step_y) in enumerate(STEPS):
            self.gives(1, count_orders, long_chain(part, 200))
            self.too_large(200, count_orders, long_chain(part, 201))
            self.too_large(200, count_orders, long_chain(part, 500))
        self.assertEqual(count_orders(built(two_arms(200))), math.comb(199, 99))
        self.too_large(200, count_orders, built(two_arms(201)))
        self.fails_at_tree((3,) * 500, count_orders, long_chain(3, 501))

    def test_by_name(self):
        self.assertEqual(count_orders(tree=None), 1)

    def test_wrong(self):
        self.fails_in_order(count_orders, [STAR], [WRONG_TREES])


class OrderAtTest(Case):

    def test_few(self):
        self.gives([], order_at, None, 0)
        self.gives([(0, 0)], order_at, ((0, 0), LEAF), 0)
        self.gives([(4, 4), (1, 1), (6, 2), (2, 3)], order_at, built(THREE), 1)

    def test_all(self):
        for points in sets(60, 6, 3) + [[(5, 5), (1, 1), (9, 1), (1, 9), (9, 9)]]:
            tree = naive.build(points)
            for number, order in enumerate(naive_orders.orders(tree)):
                self.gives(order, order_at, tree, number)
                self.gives(number, number_of, tree, order)
                self.gives(number, number_of, tree, tuple(order))
            for number in no_numbers(0, number):
                self.fails_at_number("number", order_at, tree, number)

    def test_200_points(self):
        start = time.perf_counter()
        for points in [line(200, 1, 1), stairs(200, 1, -1), drawn(200), two_arms(200), line(200, -1, 0)]:
            tree = built(points)
            many = count_orders(tree)
            self.fails_at_number("number", order_at, tree, many)
            self.assertEqual(order_at(tree, 0), points_of(tree))
            for number in {0, many - 1, many // 2, many // 3, min(many - 1, 7 ** 77)}:
                order = order_at(tree, number)
                self.assertEqual(sorted(order), sorted(points))
                self.assertEqual(naive.nodes(built(order)), naive.nodes(tree))
                self.assertEqual(number_of(tree, order), number)
        self.assertLess(time.perf_counter() - start, 5)

    def test_last_of_two_arms(self):
        up = [(k, k) for k in range(1, 200, 2)]
        down = [(-k, -k) for k in range(2, 200, 2)]
        tree = built(two_arms(200))
        self.gives([(0, 0)] + up + down, order_at, tree, math.comb(199, 99) - 1)
        self.gives([(0, 0)] + down + up, order_at, tree, 0)

    def test_too_large(self):
        for part in range(4):
            self.too_large(200, order_at, long_chain(part, 201), 0)
            self.too_large(200, order_at, long_chain(part, 201), None)

    def test_by_name(self):
        self.assertEqual(order_at(number=0, tree=((0, 0), LEAF)), [(0, 0)])

    def test_wrong(self):
        self.fails_in_order(order_at, [STAR, 23], [WRONG_TREES, wrong_numbers("number", 0, 23)])
        self.fails_in_order(order_at, [None, 0], [WRONG_TREES, wrong_numbers("number", 0, 0)])


# Tuples of the index of the first fault and a value, for STAR.
NO_ORDERS = [(-1, value) for value in NOTHING_WANTED + [None, 0, {}, {(5, 5)}, {(5, 5): 0}]] + [
    (0, []), (0, ()), (0, (0, 0)), (0, [(1, 1)]), (0, [(1, 1), (5, 5)]), (0, [(0, 0)]), (0, [None] * 5), (0, [[5, 5]]),
    (0, [(5, True), (5, 5)]), (1, [(5, 5)]), (1, [(5, 5), (5, 5)]), (1, ((5, 5), (0, 0))), (1, [(5, 5), (True, 1)]),
    (1, [(5, 5), (1, True), (1, 1)]), (1, [(5, 5), [1, 1]]), (2, [(5, 5), (1, 1), (1, 1)]), (2, [(5, 5), (1, 1), {}]),
    (2, [(5, 5), (1, 1), (5, 5)]), (4, [(5, 5), (9, 9), (1, 1), (1, 9)]), (4, [(5, 5), (9, 9), (1, 1), (1, 9), (1, 1)]),
    (5, [(5, 5), (9, 9), (1, 1), (1, 9), (9, 1), (9, 9)]), (5, [(5, 5), (9, 9), (1, 1), (1, 9), (9, 1), None]),
    (5, ((5, 5), (9, 9), (1, 1), (1, 9), (9, 1), (0, 0), (0, 0))),
]


class NumberOfTest(Case):

    def test_few(self):
        self.gives(0, number_of, None, [])
        self.gives(0, number_of, None, ())
        self.gives(0, number_of, ((0, 0), LEAF), [(0, 0)])
        self.gives(2, number_of, built(THREE), [(4, 4), (6, 2), (1, 1), (2, 3)])

    def test_no_orders(self):
        for index, value in NO_ORDERS:
            self.fails_at_order(index, number_of, STAR, value)
        for entry in NO_POINTS + [(0, 0)]:
            self.fails_at_order(0, number_of, None, [entry])
            self.fails_at_order(1, number_of, STAR, [(5, 5), entry, (1, 1)])

    def test_all_lists(self):
        for points in sets(30, 4, 4) + [[(0, 0), (1, 1), (2, 2), (3, 3)], [(0, 0), (2, 2), (1, 1), (1, 0)]]:
            tree = naive.build(points)
            for many in range(len(points) + 2):
                for order in itertools.product(points + [(9, 9)], repeat=many):
                    fault = naive_orders.fault(tree, order)
                    if fault is not None:
                        self.fails_at_order(fault, number_of, tree, list(order))

    def test_deep(self):
        tree = long_chain(3, 200)
        points = line(200, 1, 1)
        self.gives(0, number_of, tree, points)
        self.fails_at_order(199, number_of, tree, points[:199])
        self.fails_at_order(198, number_of, tree, points[:198] + points[199:])
        self.fails_at_order(200, number_of, tree, points + points)

    def test_too_large(self):
        for order in ([], None, line(201, 1, 1)):
            self.too_large(200, number_of, long_chain(3, 201), order)

    def test_by_name(self):
        self.assertEqual(number_of(order=[(0, 0)], tree=((0, 0), LEAF)), 0)

    def test_wrong(self):
        good = [(5, 5), (1, 1), (9, 1), (1, 9), (9, 9)]
        self.fails_in_order(number_of, [STAR, good], [
            WRONG_TREES, wrong_pairs(NO_ORDERS, errors.InvalidOrder, "index")])


class SetsTest(Case):
    """Tests of what is told of all orders of a set of points."""

    def wrong_sets(self, function):
        self.fails_in_order(function, [[(0, 0)]], [
            WRONG_POINTS + wrong([drawn(9), tuple(drawn(10)), drawn(500)], errors.TooLarge, "limit", 8)])
        self.fails_at_points(8, function, drawn(8) + drawn(8))
        self.fails_at_points(-1, function, drawn(501))
        self.assertEqual(function(points=[(0, 0)]), function(((0, 0),)))

    def test_wrong(self):
        for function in (count_trees, depths_of, mean_sum, least_tree, lightest_tree):
            self.wrong_sets(function)

    def test_none_and_one(self):
        for points in ([], ()):
            self.gives(1, count_trees, points)
            self.gives([0], depths_of, points)
            self.gives((0, 1), mean_sum, points)
            self.gives(None, least_tree, points)
            self.gives(None, lightest_tree, points)
        self.gives(1, count_trees, [(3, 4)])
        self.gives([1], depths_of, [(3, 4)])
        self.gives((1, 1), mean_sum, [(3, 4)])
        self.gives(((3, 4), LEAF), least_tree, [(3, 4)])
        self.gives(((3, 4), LEAF), lightest_tree, ((3, 4),))

    def test_against_all_orders(self):
        for points in sets(80, 5, 5) + sets(6, 6, 6) + [[(0, 0), (1, 1), (2, 2)], line(6, 1, 0), stairs(6, 1, -1)]:
            trees = naive_orders.trees(points)
            self.gives(len(trees), count_trees, points)
            self.gives(sorted({naive_orders.depth(tree) for tree in trees}), depths_of, points)
            self.gives(naive_orders.mean_sum(points), mean_sum, points)
            self.gives(naive_orders.best_tree(points, naive_orders.depth), least_tree, points)
            self.gives(naive_orders.best_tree(points, naive_orders.depth_sum), lightest_tree, points)

    def test_the_order_of_points_does_not_matter(self):
        generator = random.Random(7)
        for points in sets(30, 8, 8):
            other = tuple(generator.sample(points, len(points)))
            for function in (count_trees, depths_of, mean_sum, least_tree, lightest_tree):
                self.gives(function(points), function, other)

    def test_8_points(self):
        for points in [line(8, 1, 1), line(8, 0, -1), stairs(8, 1, 1), stairs(8, -1, 1)] + [drawn(8), GRID[:8]]:
            start = time.perf_counter()
            deepest = depths_of(points)
            least = least_tree(points)
            lightest = lightest_tree(points)
            top, bottom = mean_sum(points)
            many = count_trees(points)
            self.assertLess(time.perf_counter() - start, 1)
            self.assertEqual(naive_orders.depth(least), deepest[0])
            self.assertTrue(is_quarter(least) and is_quarter(lightest))
            self.assertEqual(sorted(points_of(lightest)), sorted(points))
            self.assertLess(naive_orders.depth_sum(lightest), Fraction(top, bottom))
            self.assertEqual(math.gcd(top, bottom), 1)
            self.assertGreater(many, 1)

    def test_lines(self):
        for many in range(9):
            catalan = math.comb(2 * many, many) // (many + 1)
            for step_x, step_y in STEPS + [(1, 0), (0, 1)]:
                self.gives(catalan, count_trees, line(many, step_x, step_y))
                self.gives(list(range(many.bit_length(), many + 1)), depths_of, line(many, step_x, step_y))
        self.gives((17, 3), mean_sum, line(3, 1, 1))

    def test_mean_by_roots(self):
        for points in sets(20, 8, 9):
            if points:
                parts = [[point for point in points if naive.quarter(root, point) == number]
                         for root in points for number in range(4)]
                means = [Fraction(*mean_sum(part)) for part in parts]
                self.gives(naive_orders.fraction(len(points) + sum(means) / len(points)), mean_sum, points)

    def test_first_root_by_x_keys(self):
        self.gives(node((0, 0), None, None, None, node((1, 1))), least_tree, [(1, 1), (0, 0)])
        self.gives(node((0, 0), None, None, None, node((0, 1))), lightest_tree, [(0, 1), (0, 0)])
        self.assertEqual(least_tree([(3, 0), (2, 1), (1, 2), (0, 3)])[0], (0, 3))
        self.assertEqual(lightest_tree([(3, 0), (2, 1), (1, 2), (0, 3)])[0], (1, 2))


class ShallowTreeTest(Case):

    def test_few(self):
        self.gives(None, shallow_tree, [])
        self.gives(((1, 2), LEAF), shallow_tree, ((1, 2),))
        self.gives(node((1, 1), node((0, 0))), shallow_tree, [(0, 0), (1, 1)])
        self.gives(node((1, 0), node((0, 0)), node((2, 0 - 1))), shallow_tree, [(2, -1), (0, 0), (1, 0)])

    def test_against_the_words(self):
        for points in sets(200, 16, 10) + [drawn(60), line(70, 1, 1), stairs(50, 1, -1)]:
            self.gives(naive_orders.shallow(points), shallow_tree, points)
            self.gives(naive_orders.shallow(points), shallow_tree, tuple(points[::-1]))

    def test_many(self):
        for points in [drawn(500), line(500, 1, 1), line(500, 1, -1), line(500, 0, 1), stairs(500, -1, 1)]:
            tree = shallow_tree(points)
            self.assertTrue(is_quarter(tree))
            self.assertEqual(sorted(points_of(tree)), sorted(points))
            self.assertLessEqual(depth(tree), 9)
            self.assertEqual(tree, naive_orders.shallow(points))

    def test_by_name(self):
        self.assertIsNone(shallow_tree(points=[]))

    def test_wrong(self):
        self.fails_in_order(shallow_tree, [[(0, 0)]], [WRONG_POINTS])


class NeededDepthTest(Case):

    def test_numbers(self):
        for many, wanted in [(0, 0), (1, 1), (2, 2), (3, 2), (4, 3), (7, 3), (8, 4), (500, 9), (2 ** 29 - 1, 29),
                             (2 ** 29, 30), (10 ** 9, 30)]:
            self.gives(wanted, needed_depth, many)

    def test_rising_needs_it(self):
        for many in range(9):
            self.assertEqual(depths_of(rising(many))[0], needed_depth(many))

    def test_by_name(self):
        self.assertEqual(needed_depth(many=3), 2)

    def test_wrong(self):
        self.fails_in_order(needed_depth, [7], [wrong_numbers("many", 0, 10 ** 9)])


class RisingTest(Case):

    def test_numbers(self):
        self.gives([], rising, 0)
        self.gives([(0, 0)], rising, 1)
        self.gives([(0, 0), (1, 1), (2, 2)], rising, 3)
        self.gives(line(500, 1, 1), rising, 500)

    def test_by_name(self):
        self.assertEqual(rising(many=1), [(0, 0)])

    def test_wrong(self):
        self.fails_in_order(rising, [7], [wrong_numbers("many", 0, 500)])


if __name__ == "__main__":
    unittest.main()
