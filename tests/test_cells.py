"""Tests of the cell trees [5.1], [5.2], [5.3], [5.4]."""

import itertools
import random
import time
import unittest

import naive_squares as naive
from asking import Case
from planesplits import errors
from planesplits.cells import are_split, leaf_at, leaves, levels_split, moved, points_between, split_cells
from samples import (NOTHING_WANTED, WRONG_CAPS, WRONG_FIGURES, no_cells, no_numbers, no_places, wrong, wrong_numbers,
                     wrong_places, wrong_square_points)

LAST = 2 ** 40 - 1
PAIRS = [(k * 2 ** 31 + side, k * 12345678901 % 2 ** 40) for k in range(250) for side in (0, 1)]


def squares(many, seed):
    """Return tuples (figures, cap, points)."""
    generator = random.Random(seed)
    rows = []
    for turn in range(many):
        figures = generator.randrange(4)
        places = naive.all_places(figures)
        points = generator.sample(places, generator.randrange(min(len(places), 12) + 1))
        rows.append((figures, generator.choice([1, 1, 1, 2, 2, 3, 4, 5, 11, 12, 500]), points))
    return rows


class CellCase(Case):

    def wrong_squares(self, function, *behind):
        """Ask for the errors of figures, cap and points, and of what is behind them (good value, bad values)."""
        good = [3, 2, [(0, 0), (7, 7), (1, 0)]] + [value for value, bad in behind]
        bad = [WRONG_FIGURES, WRONG_CAPS, wrong_square_points(3)] + [bad for value, bad in behind]
        self.fails_in_order(function, good, bad)


class LeavesTest(CellCase):

    def test_few(self):
        self.gives([((0, 0, 0), [])], leaves, 0, 1, [])
        self.gives([((0, 0, 0), [])], leaves, 40, 500, ())
        self.gives([((0, 0, 0), [(0, 0)])], leaves, 0, 1, [(0, 0)])
        self.gives([((0, 0, 0), [(0, 0)])], leaves, 0, 500, ((0, 0),))
        self.gives([((0, 0, 0), [(5, 1)])], leaves, 3, 1, [(5, 1)])
        self.gives([((0, 0, 0), [(0, 1), (0, 2), (3, 0)])], leaves, 2, 3, [(3, 0), (0, 2), (0, 1)])

    def test_against_the_words(self):
        for figures, cap, points in squares(300, 1):
            self.gives(naive.leaves(figures, cap, points), leaves, figures, cap, points)
            self.gives(naive.leaves(figures, cap, points), leaves, figures, cap, tuple(points[::-1]))

    def test_all_places(self):
        for figures in range(4):
            places = naive.all_places(figures)
            leaf_rows = leaves(figures, 1, places)
            self.assertEqual(sorted([inside for cell, inside in leaf_rows]), [[place] for place in places])
            self.assertEqual([cell[0] for cell, inside in leaf_rows], [figures] * len(places))
            self.assertEqual(leaves(figures, 500, places), [((0, 0, 0), places)])

    def test_two_neighbours_at_the_end(self):
        told = leaves(40, 1, [(LAST, LAST), (LAST, LAST - 1)])
        self.assertEqual(len(told), 121)
        self.assertEqual(told[-3], ((40, LAST, LAST - 1), [(LAST, LAST - 1)]))
        self.assertEqual(told[-1], ((40, LAST, LAST), [(LAST, LAST)]))
        self.assertEqual(told[0], ((1, 0, 0), []))

    def test_500_points(self):
        start = time.perf_counter()
        told = leaves(40, 1, PAIRS)
        self.assertLess(time.perf_counter() - start, 1)
        self.assertEqual(sorted([point for cell, inside in told for point in inside]), sorted(PAIRS))
        self.assertEqual(len(told), 3 * len(split_cells(40, 1, PAIRS)) + 1)

    def test_by_name(self):
        self.assertEqual(leaves(points=[(0, 0)], cap=1, figures=1), [((0, 0, 0), [(0, 0)])])

    def test_wrong(self):
        self.wrong_squares(leaves)


class SplitCellsTest(CellCase):

    def test_few(self):
        self.gives([], split_cells, 0, 1, [(0, 0)])
        self.gives([], split_cells, 40, 1, [])
        self.gives([], split_cells, 2, 2, [(0, 0), (3, 3)])
        self.gives([(0, 0, 0)], split_cells, 2, 1, [(0, 0), (3, 3)])
        self.gives([(0, 0, 0), (1, 1, 0), (1, 1, 1)], split_cells, 2, 1, ((3, 3), (2, 2), (2, 0), (3, 0)))

    def test_against_the_words(self):
        for figures, cap, points in squares(300, 2):
            self.gives(naive.split_cells(figures, cap, points), split_cells, figures, cap, points)

    def test_all_sets_of_a_small_square(self):
        places = naive.all_places(2)
        for many in range(5):
            for points in itertools.combinations(places, many):
                for cap in range(1, many + 1):
                    self.assertEqual(split_cells(2, cap, points), naive.split_cells(2, cap, points))

    def test_large_squares(self):
        generator = random.Random(8)
        for figures in (5, 17, 39, 40):
            for cap in (1, 2, 3, 7):
                middle = (generator.randrange(2 ** figures - 9), generator.randrange(2 ** figures - 9))
                points = [(middle[0] + x, middle[1] + y) for x, y in generator.sample(naive.all_places(3), 30)]
                self.assertEqual(split_cells(figures, cap, points), naive.split_cells(figures, cap, points))

    def test_500_points(self):
        self.assertEqual(split_cells(40, 1, PAIRS), naive.split_cells(40, 1, PAIRS))
        self.assertEqual(split_cells(40, 500, PAIRS), [])
        self.assertEqual(split_cells(40, 499, PAIRS), [(0, 0, 0)])

    def test_by_name(self):
        self.assertEqual(split_cells(points=[(0, 0)], cap=1, figures=1), [])

    def test_wrong(self):
        self.wrong_squares(split_cells)


class LeafAtTest(CellCase):

    def test_few(self):
        self.gives((0, 0, 0), leaf_at, 0, 1, [], (0, 0))
        self.gives((0, 0, 0), leaf_at, 40, 1, [(1, 1)], (LAST, LAST))
        self.gives((1, 1, 0), leaf_at, 2, 1, [(0, 0), (3, 3)], (2, 1))

    def test_each_place(self):
        for figures, cap, points in squares(100, 3):
            cells = [cell for cell, inside in naive.leaves(figures, cap, points)]
            for place in naive.all_places(figures):
                wanted = [cell for cell in cells if naive.has(figures, cell, place)]
                self.assertEqual(len(wanted), 1)
                self.gives(wanted[0], leaf_at, figures, cap, points, place)

    def test_deep(self):
        self.gives((40, LAST, LAST), leaf_at, 40, 1, [(LAST, LAST), (LAST - 1, LAST)], (LAST, LAST))
        self.gives((1, 0, 1), leaf_at, 40, 1, [(LAST, LAST), (LAST - 1, LAST)], (0, LAST))
        cells = [cell for cell, inside in leaves(40, 1, PAIRS) if inside]
        self.assertEqual(sorted([leaf_at(40, 1, PAIRS, point) for point in PAIRS[::7]]),
                         sorted([cell for cell in cells if any(naive.has(40, cell, p) for p in PAIRS[::7])]))

    def test_by_name(self):
        self.assertEqual(leaf_at(place=(1, 1), points=[(0, 0)], cap=1, figures=1), (0, 0, 0))

    def test_wrong(self):
        self.wrong_squares(leaf_at, ((0, 0), wrong_places("place", 3)))


class LevelsSplitTest(CellCase):

    def test_few(self):
        self.gives([], levels_split, 0, 1, [(0, 0)])
        self.gives([0], levels_split, 1, 1, [(0, 0)])
        self.gives([1], levels_split, 1, 3, [(0, 0), (0, 1), (1, 0), (1, 1)])
        self.gives([1, 1, 0], levels_split, 3, 1, [(0, 0), (2, 2)])
        self.gives([1] * 40, levels_split, 40, 1, [(LAST, LAST), (LAST - 1, LAST)])
        self.gives([0] * 40, levels_split, 40, 1, [])

    def test_against_the_words(self):
        for figures, cap, points in squares(200, 4):
            cells = naive.split_cells(figures, cap, points)
            wanted = [len([cell for cell in cells if cell[0] == level]) for level in range(figures)]
            self.gives(wanted, levels_split, figures, cap, points)

    def test_by_name(self):
        self.assertEqual(levels_split(points=[], cap=1, figures=2), [0, 0])

    def test_wrong(self):
        self.wrong_squares(levels_split)


class MovedTest(CellCase):

    def test_few(self):
        self.gives(([], []), moved, 0, 1, [(0, 0)], 0, (0, 0))
        self.gives(([], []), moved, 1, 1, [(0, 0)], 0, (1, 1))
        self.gives(([(1, 0, 0)], []), moved, 2, 1, [(0, 0), (3, 3)], 1, (1, 0))
        self.gives(([], [(1, 0, 0)]), moved, 2, 1, ((0, 0), (1, 0)), 1, (3, 3))
        self.gives(([(1, 1, 1)], [(1, 0, 0)]), moved, 2, 1, [(0, 0), (1, 0), (3, 3)], 0, (2, 2))
        deep = [(level, 2 ** level - 1, 2 ** level - 1) for level in range(1, 40)]
        self.gives((deep, []), moved, 40, 1, [(LAST, LAST), (0, 0)], 1, (LAST, LAST - 1))
        self.gives(([], deep), moved, 40, 1, [(LAST, LAST), (LAST, LAST - 1)], 1, (0, 0))

    def test_each_move(self):
        for figures, cap, points in squares(60, 5):
            for index, point in enumerate(points):
                for place in naive.all_places(figures):
                    if place == point or place not in points:
                        self.gives(naive.moved(figures, cap, points, index, place),
                                   moved, figures, cap, points, index, place)

    def test_many_points(self):
        places = PAIRS[:100]
        for index in (0, 50, 99):
            for place in [PAIRS[101], PAIRS[200], (places[3][0], places[3][1] + 1)]:
                self.assertEqual(moved(40, 1, places, index, place), naive.moved(40, 1, places, index, place))

    def test_by_name(self):
        self.assertEqual(moved(place=(1, 1), index=0, points=[(0, 0)], cap=1, figures=1), ([], []))

    def test_wrong(self):
        others = [(0, 0), (1, 0)]
        bad = wrong(no_places(3) + others, errors.Mismatch, "name", "place")
        points = [(0, 0), (7, 7), (1, 0)]
        self.fails_in_order(moved, [3, 2, points, 1, (7, 7)], [
            WRONG_FIGURES, WRONG_CAPS, wrong_square_points(3), wrong_numbers("index", 0, 2), bad])
        self.gives(([], []), moved, 3, 2, points, 1, (7, 7))

    def test_no_points(self):
        for index in [0, -1] + no_numbers(0, 0):
            self.fails_at_number("index", moved, 3, 1, [], index, (0, 0))


class AreSplitTest(CellCase):

    def test_each_order(self):
        points = [(0, 0), (1, 1), (3, 3), (2, 2)]
        cells = [(0, 0, 0), (1, 0, 0), (1, 1, 1)]
        for order in itertools.permutations(cells):
            self.gives(True, are_split, 2, 1, points, order)
            self.gives(True, are_split, 2, 1, points, list(order))
        for many in (0, 1, 2):
            for order in itertools.permutations(cells, many):
                self.gives(False, are_split, 2, 1, points, list(order))
        for more in [cells + [cells[0]], cells + [(1, 0, 1)], cells[:2] + cells[:1], cells + [(2, 0, 0)],
                     cells[:2] + [(1, 1, 0)], cells + [None], cells + [[]], cells[:2] + [[1, 1, 1]],
                     [cells], [(0, False, 0)] + cells[1:], [(False, 0, 0)] + cells[1:], cells[:2] + [(True, 1, 1)],
                     cells[:2] + [(1, True, 1)], cells[:2] + [(1, 1, 1, 1)], cells[:2] + [(1, 1, 1j)]]:
            self.gives(False, are_split, 2, 1, points, more)
            self.gives(False, are_split, 2, 1, points, tuple(more))
        self.gives(False, are_split, 2, 1, points, {cell: True for cell in cells})
        self.gives(False, are_split, 2, 1, points, set(cells))

    def test_none_is_split(self):
        self.gives(True, are_split, 0, 1, [(0, 0)], [])
        self.gives(True, are_split, 40, 500, [], ())
        self.gives(False, are_split, 40, 500, [], [(0, 0, 0)])

    def test_other_things(self):
        for value in NOTHING_WANTED + [None, 0, "", (0, 0, 0)]:
            self.gives(False, are_split, 2, 1, [(0, 0), (3, 3)], value)
            if not isinstance(value, (list, tuple)):
                self.gives(False, are_split, 2, 1, [], value)
        for value in no_cells(2):
            self.gives(False, are_split, 2, 1, [(0, 0), (3, 3)], [value])
            self.gives(False, are_split, 2, 1, [(0, 0), (3, 3)], [(0, 0, 0), value])

    def test_many(self):
        cells = split_cells(40, 1, PAIRS)
        self.assertIs(are_split(40, 1, PAIRS, cells[::-1]), True)
        self.assertIs(are_split(40, 1, PAIRS, cells[1:]), False)

    def test_by_name(self):
        self.assertIs(are_split(cells=[], points=[], cap=1, figures=1), True)

    def test_wrong(self):
        self.wrong_squares(are_split, ([], []))


class PointsBetweenTest(CellCase):

    def test_few(self):
        self.gives(((0, 0), (0, 0)), points_between, 0, (0, 0, 0))
        self.gives(((0, 0), (LAST, LAST)), points_between, 40, (0, 0, 0))
        self.gives(((LAST, 0), (LAST, 0)), points_between, 40, (40, LAST, 0))
        self.gives(((4, 0), (5, 1)), points_between, 3, (2, 2, 0))

    def test_each_cell(self):
        for figures in range(4):
            for cell in naive.all_cells(figures):
                places = naive.places_of(figures, cell)
                self.gives((min(places), max(places)), points_between, figures, cell)

    def test_by_name(self):
        self.assertEqual(points_between(square=(1, 1, 0), figures=1), ((1, 0), (1, 0)))

    def test_wrong(self):
        self.fails_in_order(points_between, [3, (1, 1, 1)], [
            WRONG_FIGURES, wrong(no_cells(3), errors.Mismatch, "name", "square")])
        self.fails_in_order(points_between, [0, (0, 0, 0)], [
            WRONG_FIGURES, wrong(no_cells(0), errors.Mismatch, "name", "square")])


if __name__ == "__main__":
    unittest.main()
