"""Tests of how many shapes there are, of the averages, and of how many cells can be split [11.1], [11.2], [11.3]."""

import itertools
import math
import random
import time
import unittest
from fractions import Fraction

import naive
import naive_orders
import naive_squares
from asking import Case, lists_in
from planesplits import errors
from planesplits.cells import split_cells
from planesplits.numbers import (count_deep, count_shapes, crowded, fewest_splits, most_splits, part_share, random_sum,
                                 shape_of, shape_points, spread)
from planesplits.quarters import built, path_to, points_of
from samples import (LEAF, NOTHING_WANTED, STEPS, TREE, WRONG_CAPS, WRONG_FIGURES, WRONG_TREES, line, long_chain,
                     stairs, wrong_numbers, wrong_pairs)

ALL_SHAPES = [shape for many in range(5) for shape in naive_orders.shapes(many)]


def chain_shape(part, many):
    shape = None
    for level in range(many):
        shape = tuple([shape if number == part else None for number in range(4)])
    return shape


def doubled(many):
    """Return a shape of so many levels in which all four parts of each node are the same object."""
    shape = None
    for level in range(many):
        shape = (shape,) * 4
    return shape


def paths_of(shape):
    """Return the paths of a shape in reading order; of deep shapes, too."""
    rows = []
    pile = [(shape, ())]
    while pile:
        thing, path = pile.pop()
        if thing is not None:
            rows.append(path)
            pile.extend([(thing[k], path + (k,)) for k in (3, 2, 1, 0)])
    return rows


class ShapeOfTest(Case):

    def test_few(self):
        self.gives(None, shape_of, None)
        self.gives(LEAF, shape_of, ((3, 4), LEAF))
        self.gives((LEAF, (None, LEAF, LEAF, None), None, (LEAF, None, None, None)), shape_of, TREE)

    def test_against_the_words(self):
        generator = random.Random(1)
        for turn in range(100):
            points = generator.sample([(x, y) for x in range(5) for y in range(5)], generator.randrange(20))
            tree = naive.build(points)
            self.gives(naive_orders.shape(tree), shape_of, tree)

    def test_500_points(self):
        for part, (step_x, step_y) in enumerate(STEPS):
            self.assertEqual(paths_of(shape_of(long_chain(part, 500))), [(part,) * k for k in range(500)])
            tree = built(stairs(500, step_x, step_y))
            self.assertEqual(paths_of(shape_of(tree)), [path for path, point in naive.nodes(tree)])

    def test_by_name(self):
        self.assertEqual(shape_of(tree=((0, 0), LEAF)), LEAF)

    def test_wrong(self):
        self.fails_in_order(shape_of, [TREE], [WRONG_TREES])
        self.fails_at_tree((3,) * 500, shape_of, long_chain(3, 501))


class CountShapesTest(Case):

    def test_all_shapes(self):
        for many in range(6):
            self.gives(len(naive_orders.shapes(many)), count_shapes, many)

    def test_numbers(self):
        for many in range(301):
            self.assertEqual(count_shapes(many), math.comb(4 * many, many) // (3 * many + 1))

    def test_by_name(self):
        self.assertEqual(count_shapes(many=3), 22)

    def test_wrong(self):
        self.fails_in_order(count_shapes, [3], [wrong_numbers("many", 0, 300)])


class CountDeepTest(Case):

    def test_all_shapes(self):
        for many in range(6):
            depths = [naive_orders.shape_depth(shape) for shape in naive_orders.shapes(many)]
            for most in range(8):
                self.gives(len([depth for depth in depths if depth <= most]), count_deep, many, most)

    def test_ends(self):
        self.gives(1, count_deep, 0, 0)
        self.gives(1, count_deep, 0, 40)
        self.gives(0, count_deep, 40, 0)
        self.gives(0, count_deep, 40, 3)
        self.gives(1, count_deep, 5, 2)
        for many in range(41):
            self.gives(count_shapes(many), count_deep, many, many)
            self.gives(count_shapes(many), count_deep, many, 40)
            if many > 1:
                # All but the chains, with four choices for each step.
                self.gives(count_shapes(many) - 4 ** (many - 1), count_deep, many, many - 1)

    def test_quick(self):
        start = time.perf_counter()
        for turn in range(10):
            count_deep(40, 40)
        self.assertLess(time.perf_counter() - start, 2)

    def test_by_name(self):
        self.assertEqual(count_deep(depth=2, many=3), 6)

    def test_wrong(self):
        self.fails_in_order(count_deep, [40, 40], [wrong_numbers("many", 0, 40), wrong_numbers("depth", 0, 40)])


# Tuples of the path of the first fault and a value.
NO_SHAPES = [((), value) for value in NOTHING_WANTED] + [
    ((), 0), ((), 5), ((), []), ((), ()), ((), [None] * 4), ((), LEAF[1:]), ((), LEAF + (None,)), ((), ((0, 0), LEAF)),
    ((0,), (0, None, None, None)), ((1,), (None, False, None, None)), ((2,), (None, None, [], None)),
    ((3,), (None, None, None, ())), ((0,), ([None] * 4, LEAF, LEAF, LEAF)), ((3,), (LEAF, LEAF, LEAF, LEAF[1:])),
    ((0, 2), ((None, None, "", None), 5, None, None)), ((1,), (LEAF, 5, None, 5)), ((3, 3), (LEAF, LEAF, LEAF, (
        LEAF, LEAF, LEAF, LEAF + LEAF))), ((0,), ((0, 0), (1, 1), (2, 2), (3, 3))), ((0,), ("", "", "", "")),
]


class ShapePointsTest(Case):

    def test_few(self):
        self.gives([], shape_points, None)
        self.gives([(0, 0)], shape_points, LEAF)
        self.gives([(1, 1), (0, 0), (2, 2)], shape_points, (LEAF, None, None, LEAF))
        self.gives([(2, 2), (0, 0), (3, 1), (1, 3), (4, 4)], shape_points, (LEAF, LEAF, LEAF, LEAF))

    def test_all_shapes(self):
        for shape in ALL_SHAPES:
            self.gives(naive_orders.shape_points(shape), shape_points, shape)
            tree = naive.build(shape_points(shape))
            self.assertEqual(naive_orders.shape(tree), shape)
            self.assertEqual([point for path, point in naive.nodes(tree)], shape_points(shape))

    def test_drawn_shapes(self):
        generator = random.Random(2)
        for turn in range(40):
            points = generator.sample([(x, y) for x in range(9) for y in range(9)], generator.randrange(40))
            shape = naive_orders.shape(naive.build(points))
            self.gives(naive_orders.shape_points(shape), shape_points, shape)

    def test_200_and_201(self):
        self.gives(line(200, 1, 1), shape_points, chain_shape(3, 200))
        self.gives(line(200, 1, 1)[::-1], shape_points, chain_shape(0, 200))
        self.gives([(k, 199 - k) for k in range(200)], shape_points, chain_shape(1, 200))
        self.gives([(199 - k, k) for k in range(200)], shape_points, chain_shape(2, 200))
        for part in range(4):
            self.too_large(200, shape_points, chain_shape(part, 201))
            self.too_large(200, shape_points, chain_shape(part, 3000))

    def test_same_part_many_times(self):
        self.assertEqual(shape_points(doubled(4)), naive_orders.shape_points(doubled(4)))
        self.too_large(200, shape_points, doubled(5))
        self.too_large(200, shape_points, doubled(300))

    def test_which_comes_first(self):
        long = chain_shape(3, 198)
        # The root, 198 nodes below it, and then the 200th thing, and the 201st.
        self.fails_at_tree((1,), shape_points, (long, "x", None, None))
        self.fails_at_tree((2,), shape_points, (long, LEAF, [], LEAF))
        self.too_large(200, shape_points, (long, LEAF, LEAF, "x"))
        self.fails_at_tree((3,), shape_points, (long, LEAF, None, "x"))
        self.too_large(200, shape_points, (long, LEAF, None, ("x", None, None, None)))
        self.fails_at_tree((3,) * 200, shape_points, spoilt_end(200))
        self.fails_at_tree((3,) * 199, shape_points, spoilt_end(199))
        self.too_large(200, shape_points, spoilt_end(201))
        self.assertEqual(len(shape_points((long, LEAF, None, None))), 200)

    def test_by_name(self):
        self.assertEqual(shape_points(shape=LEAF), [(0, 0)])

    def test_wrong(self):
        self.fails_in_order(shape_points, [LEAF], [wrong_pairs(NO_SHAPES, errors.InvalidTree, "path")])


def spoilt_end(many):
    """Return a chain of so many nodes with something wrong below the last one."""
    shape = "x"
    for level in range(many):
        shape = (None, None, None, shape)
    return shape


class PartShareTest(Case):

    def test_all_cases(self):
        for many in range(1, 6):
            for size in range(7):
                for part in range(4):
                    self.gives(naive_orders.part_share(many, size, part), part_share, many, size)

    def test_ends(self):
        self.gives((1, 1), part_share, 1, 0)
        self.gives((0, 1), part_share, 1, 1)
        self.gives((0, 1), part_share, 1, 300)
        self.gives((0, 1), part_share, 300, 300)
        self.gives((1, 90000), part_share, 300, 299)
        self.gives(naive_orders.fraction(sum([Fraction(1, k) for k in range(1, 301)]) / 300), part_share, 300, 0)

    def test_shares_add_up(self):
        for many in (2, 9, 60):
            shares = [Fraction(*part_share(many, size)) for size in range(many + 1)]
            self.assertEqual(sum(shares), 1)
            self.assertEqual(4 * sum([size * share for size, share in enumerate(shares)]), many - 1)

    def test_lowest_terms(self):
        for many in (4, 6, 12, 30, 300):
            for size in (0, 1, 2, 5, many - 1):
                top, bottom = part_share(many, size)
                self.assertEqual((math.gcd(top, bottom), bottom > 0), (1, True))

    def test_by_name(self):
        self.assertEqual(part_share(size=1, many=2), (1, 4))

    def test_wrong(self):
        self.fails_in_order(part_share, [300, 300], [wrong_numbers("many", 1, 300), wrong_numbers("size", 0, 300)])


class RandomSumTest(Case):

    def test_all_cases(self):
        for many in range(5):
            self.gives(naive_orders.random_sum(many), random_sum, many)

    def test_by_shares(self):
        for many, wanted in enumerate(naive_orders.mean_by_parts(40)):
            self.gives(wanted, random_sum, many)

    def test_by_name(self):
        self.assertEqual(random_sum(many=2), (3, 1))

    def test_wrong(self):
        self.fails_in_order(random_sum, [40], [wrong_numbers("many", 0, 40)])


CAPS = list(range(1, 19)) + [63, 64, 65, 199, 200, 255, 256, 257, 500]
NUMBERS = [0, 1, 2, 3, 4, 5, 6, 7, 12, 13, 50, 63, 64, 65, 99, 128, 129, 192, 193, 199, 200]


def squares():
    """Return tuples (figures, cap, many) with at most 200 points."""
    rows = [(figures, cap, many) for figures in (0, 1, 2, 3) for cap in CAPS for many in range(4 ** figures + 1)]
    return rows + [(figures, cap, many) for figures in (4, 5, 39, 40) for cap in CAPS for many in NUMBERS]


class SplitsTest(Case):

    def split(self, figures, cap, points):
        # In large squares the words take long.
        function = naive_squares.split_cells if figures < 4 else split_cells
        return len(function(figures, cap, points))

    def test_all_sets_of_small_squares(self):
        for figures, cap in [(0, 1), (0, 500), (1, 1), (1, 2), (1, 3), (1, 4), (2, 1), (2, 3), (2, 4), (2, 5), (2, 16)]:
            places = naive_squares.all_places(figures)
            for many in [k for k in range(len(places) + 1) if k < 5 or k > 13]:
                numbers = [self.split(figures, cap, points) for points in itertools.combinations(places, many)]
                self.gives(max(numbers), most_splits, figures, cap, many)
                self.gives(min(numbers), fewest_splits, figures, cap, many)

    def test_reached(self):
        for figures, cap, many in squares():
            for function, number in ((crowded, most_splits), (spread, fewest_splits)):
                points = function(figures, cap, many)
                self.assertIsInstance(points, list)
                self.assertTrue(all(naive_squares.is_place(figures, point) for point in points))
                self.assertEqual(len(set(points)), many)
                self.assertEqual(len(points), many)
                wanted = number(figures, cap, many)
                self.assertEqual(self.split(figures, cap, points), wanted, (function, figures, cap, many))

    def test_new_lists(self):
        for function in (crowded, spread):
            self.gives(function(3, 2, 20), function, 3, 2, 20)
            self.assertEqual(len(lists_in(function(3, 2, 20))), 1)
            self.gives([], function, 0, 1, 0)
            self.gives([(0, 0)], function, 0, 1, 1)

    def test_most_by_the_words(self):
        for figures, cap in [(3, 1), (3, 20), (10, 4), (40, 1), (40, 500)]:
            for many in [0, 1, cap, cap + 1, 4 ** figures // 3, 4 ** figures]:
                wanted = sum([min(4 ** level, many // (cap + 1)) for level in range(figures + 1)
                              if 4 ** (figures - level) > cap])
                self.gives(wanted, most_splits, figures, cap, many)

    def test_fewest_by_the_words(self):
        for figures, cap in [(0, 1), (1, 3), (2, 1), (2, 3), (2, 5), (3, 1), (3, 5), (3, 16), (3, 17), (4, 7), (4, 500)]:
            for many in range(4 ** figures + 1):
                self.gives(fewest_by_the_words(figures, cap, many), fewest_splits, figures, cap, many)

    def test_full_squares(self):
        self.gives((4 ** 40 - 1) // 3, most_splits, 40, 1, 4 ** 40)
        self.gives((4 ** 40 - 1) // 3, fewest_splits, 40, 1, 4 ** 40)
        self.gives((4 ** 39 - 1) // 3, fewest_splits, 40, 4, 4 ** 40)
        self.gives((4 ** 40 - 1) // 3, fewest_splits, 40, 3, 4 ** 40)
        self.gives((4 ** 36 - 1) // 3, fewest_splits, 40, 256, 4 ** 40)
        self.gives((4 ** 36 - 1) // 3, most_splits, 40, 500, 4 ** 40)
        self.gives(0, most_splits, 4, 256, 256)
        self.gives(0, fewest_splits, 4, 256, 256)
        self.gives(1, most_splits, 4, 255, 256)
        self.gives(1, fewest_splits, 4, 255, 256)

    def test_by_name(self):
        self.assertEqual(most_splits(many=4, cap=1, figures=3), 5)
        self.assertEqual(fewest_splits(many=5, cap=1, figures=3), 2)
        self.assertEqual(crowded(many=0, cap=1, figures=3), [])
        self.assertEqual(spread(many=0, cap=1, figures=3), [])

    def test_wrong(self):
        for figures in (0, 3, 40):
            for function in (most_splits, fewest_splits):
                self.fails_in_order(function, [figures, 2, 1], [
                    WRONG_FIGURES, WRONG_CAPS, wrong_numbers("many", 0, 4 ** figures)])
            for function in (crowded, spread):
                self.fails_in_order(function, [figures, 2, 1], [
                    WRONG_FIGURES, WRONG_CAPS, wrong_numbers("many", 0, min(200, 4 ** figures))])


def fewest_by_the_words(figures, cap, many):
    """Take splits one by one: the cells of all levels whose parts have enough places, then those of the next one."""
    room = cap
    splits = 0
    for level in range(figures):
        part_places = 4 ** (figures - level - 1)
        if 4 * part_places <= cap:
            break
        for cell in range(4 ** level):
            if room >= many:
                return splits
            splits += 1
            room += 3 * cap if part_places >= cap else 4 * part_places - cap
    return splits


class FactsTest(Case):

    def test_shapes_of_points(self):
        for shape in ALL_SHAPES:
            self.gives(shape, shape_of, built(shape_points(shape)))
        tree = built(shape_points(doubled(4)))
        self.assertEqual(points_of(tree), shape_points(doubled(4)))
        self.assertEqual(path_to(tree, shape_points(doubled(4))[-1]), [3, 3, 3])


if __name__ == "__main__":
    unittest.main()
