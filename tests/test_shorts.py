"""Tests of the codes and the short trees [6.1], [6.2], [6.3]."""

import random
import unittest

import naive_squares as naive
from asking import Case
from planesplits import errors
from planesplits.shorts import (code_of, common_cell, is_short, place_of, places_in, put_short, short_tree, stretch_of,
                                taken_short, way_to)
from samples import (NOTHING_WANTED, WRONG_FIGURES, no_cells, wrong, wrong_numbers, wrong_pairs, wrong_places,
                     wrong_square_points)

LAST = 2 ** 40 - 1
DRAWN = random.Random(6)
FIVE = [(0, 0), (5, 4), (7, 4), (5, 6), (0, 1)]
TREE = ((0, 0, 0), (((2, 0, 0), ((0, 0), None, (0, 1), None)), None, None,
                    ((1, 1, 1), ((5, 4), (7, 4), (5, 6), None))))
INNER = ((2, 0, 0), ((0, 0), None, (0, 1), None))
NO_PARTS = (None, None, None, None)

# Tuples of the path of the first fault and a value, for three figures.
NO_SHORT_TREES = [((), value) for value in NOTHING_WANTED] + [
    ((), 0), ((), 5), ((), []), ((), ()), ((), (0,)), ((), [0, 0]), ((), (0, 0, 0)), ((), (8, 0)), ((), (0, 8)),
    ((), (-1, 0)), ((), (0, -1)), ((), (True, 0)), ((), (0, False)), ((), (0, None)), ((), (10 ** 5000, 0)),
    ((), ((0, 0, 0), NO_PARTS)), ((), ((0, 0, 0), ((0, 0), None, None, None))), ((), ((0, 0, 0), None)),
    ((), ((0, 0, 0), ((0, 0), (7, 0), None))), ((), ((0, 0, 0), ((0, 0), (7, 0), None, None, None))),
    ((), ((0, 0, 0), [(0, 0), (7, 0), None, None])), ((), [(0, 0, 0), ((0, 0), (7, 0), None, None)]),
    ((), ((0, 0, 0), ((0, 0), (7, 0), None, None), None)), ((), ((0, 0, 0),)), ((), (None, ((0, 0), (7, 0), None, None))),
    ((), ((3, 0, 0), ((0, 0), (0, 0), None, None))), ((), ((4, 0, 0), ((0, 0), (1, 0), None, None))),
    ((), ((0, 1, 0), ((0, 0), (7, 0), None, None))), ((), ((0, False, 0), ((0, 0), (7, 0), None, None))),
    ((), ((False, 0, 0), ((0, 0), (7, 0), None, None))), ((), ([0, 0, 0], ((0, 0), (7, 0), None, None))),
    ((), ((0, 0), ((0, 0), (7, 0), None, None))), ((), ((0, 0, 0), (None, None, None, "x"))),
    ((0,), ((0, 0, 0), ((4, 0), (7, 0), None, None))), ((1,), ((0, 0, 0), ((0, 0), (3, 0), None, None))),
    ((2,), ((0, 0, 0), ((0, 0), None, (0, 3), None))), ((3,), ((0, 0, 0), ((0, 0), None, None, (4, 3)))),
    ((0,), ((0, 0, 0), ("", (7, 0), None, []))), ((3,), ((0, 0, 0), ((0, 0), (7, 0), None, []))),
    ((1,), ((0, 0, 0), ((0, 0), False, None, None))), ((1,), ((0, 0, 0), ((0, 0), 0, 0, 0))),
    ((1,), ((0, 0, 0), ((0, 0), (True, 0), None, None))), ((3,), ((0, 0, 0), (INNER, None, None, INNER))),
    ((0,), ((0, 0, 0), (((0, 0, 0), ((0, 0), (7, 0), None, None)), (7, 0), None, None))),
    ((0,), ((0, 0, 0), (((2, 2, 0), ((4, 0), (5, 0), None, None)), (7, 0), None, None))),
    ((0,), ((0, 0, 0), (((1, 0, 0), ((0, 0), None, None, None)), (7, 0), None, None))),
    ((0,), ((0, 0, 0), (((3, 0, 0), ((0, 0), (0, 0), None, None)), (7, 0), None, None))),
    ((0, 1), ((0, 0, 0), (((1, 0, 0), ((0, 0), (4, 0), None, None)), (7, 0), None, None))),
    ((0, 1), ((0, 0, 0), (((2, 1, 1), ((2, 2), (2, 2), None, None)), (3, 0), None, None))),
    ((0, 3), ((0, 0, 0), (((2, 0, 0), ((0, 0), None, None, (2, 2))), 5, None, None))),
    ((1,), ((2, 1, 0), ((2, 0), (2, 0), None, None))), ((0,), ((2, 1, 0), ((0, 0), (3, 0), None, None))),
    ((0,), ((0, 0, 0), (((1, 1, 0), ((4, 0), (6, 0), None, None)), (7, 0), None, None))),
]


def trees(many, seed):
    """Return tuples (figures, points, tree) of small squares."""
    generator = random.Random(seed)
    rows = []
    for turn in range(many):
        figures = generator.randrange(4)
        places = naive.all_places(figures)
        points = generator.sample(places, generator.randrange(min(len(places), 9) + 1))
        rows.append((figures, points, naive.short(figures, points)))
    return rows


def many_points(many, figures=40):
    """Return so many points, of which some lie near each other."""
    points = {(DRAWN.randrange(2 ** figures), DRAWN.randrange(2 ** figures)) for turn in range(many)}
    near = {(x ^ 1, y ^ DRAWN.randrange(64)) for x, y in points}
    return DRAWN.sample(sorted(points | near), many)


def overfull():
    """Return tuples (path of the 501st place, tree) for trees of 501 and more places of six figures."""
    rows = []
    for many in (501, 502, 600):
        points = DRAWN.sample(naive.all_places(5), many)
        tree = made(5, sorted(points, key=lambda point: naive.code(5, point)))
        paths = [path for path, good in naive.places_and_forks(5, tree, (), (0, 0, 0)) if is_place_at(tree, path)]
        rows.append((paths[500], tree))
    return rows


def made(figures, points):
    """Return the short tree of points in the order of their codes, quicker than by the words."""
    if len(points) < 2:
        return points[0] if points else None
    cell = (0, 0, 0)
    while True:
        parts = [[point for point in points if naive.has(figures, part, point)] for part in naive.parts_of(cell)]
        if len([part for part in parts if part]) > 1:
            return (cell, tuple([made(figures, part) for part in parts]))
        cell = [part for part, inside in zip(naive.parts_of(cell), parts) if inside][0]


def is_place_at(tree, path):
    for number in path:
        tree = tree[1][number]
    return isinstance(tree[0], int)


class CodesTest(Case):

    def test_each_place(self):
        for figures in range(4):
            places = naive.all_places(figures)
            codes = [code_of(figures, place) for place in places]
            self.assertEqual(codes, [naive.code(figures, place) for place in places])
            self.assertEqual(sorted(codes), list(range(4 ** figures)))
            for place, code in zip(places, codes):
                self.gives(code, code_of, figures, place)
                self.gives(place, place_of, figures, code)

    def test_far(self):
        for figures, place in [(40, (LAST, LAST)), (40, (LAST, 0)), (40, (0, LAST)), (40, (2 ** 39, 2 ** 39 - 1)),
                               (39, (2 ** 39 - 1, 5)), (40, (0, 0)), (1, (1, 0)), (0, (0, 0))]:
            self.gives(naive.code(figures, place), code_of, figures, place)
            self.gives(place, place_of, figures, naive.code(figures, place))
        self.gives((LAST, LAST), place_of, 40, 4 ** 40 - 1)

    def test_many(self):
        for x, y in many_points(500):
            self.assertEqual(code_of(40, (x, y)), naive.code(40, (x, y)))
            self.assertEqual(place_of(40, naive.code(40, (x, y))), (x, y))

    def test_by_name(self):
        self.assertEqual(code_of(place=(1, 1), figures=1), 3)
        self.assertEqual(place_of(code=3, figures=1), (1, 1))

    def test_wrong(self):
        for figures in (0, 3, 40):
            self.fails_in_order(code_of, [figures, (0, 0)], [WRONG_FIGURES, wrong_places("place", figures)])
            self.fails_in_order(place_of, [figures, 0], [WRONG_FIGURES, wrong_numbers("code", 0, 4 ** figures - 1)])


class StretchOfTest(Case):

    def test_each_cell(self):
        for figures in range(4):
            for cell in naive.all_cells(figures):
                codes = sorted([naive.code(figures, place) for place in naive.places_of(figures, cell)])
                self.assertEqual(codes, list(range(codes[0], codes[-1] + 1)))
                self.gives((codes[0], codes[-1]), stretch_of, figures, cell)

    def test_far(self):
        self.gives((0, 4 ** 40 - 1), stretch_of, 40, (0, 0, 0))
        self.gives((4 ** 40 - 1, 4 ** 40 - 1), stretch_of, 40, (40, LAST, LAST))
        self.gives((4 ** 39, 2 * 4 ** 39 - 1), stretch_of, 40, (1, 1, 0))

    def test_by_name(self):
        self.assertEqual(stretch_of(square=(1, 1, 0), figures=1), (1, 1))

    def test_wrong(self):
        for figures in (0, 3, 40):
            self.fails_in_order(stretch_of, [figures, (0, 0, 0)], [
                WRONG_FIGURES, wrong(no_cells(figures), errors.Mismatch, "name", "square")])


class CommonCellTest(Case):

    def test_each_two(self):
        for figures in range(4):
            for place in naive.all_places(figures):
                for other in naive.all_places(figures):
                    self.assertEqual(common_cell(figures, place, other), naive.common_cell(figures, [place, other]))

    def test_few(self):
        self.gives((1, 1, 1), common_cell, 3, (5, 4), (7, 6))
        self.gives((3, 5, 4), common_cell, 3, (5, 4), (5, 4))
        self.gives((0, 0, 0), common_cell, 0, (0, 0), (0, 0))
        self.gives((0, 0, 0), common_cell, 40, (0, 0), (0, LAST))
        self.gives((40, LAST, 7), common_cell, 40, (LAST, 7), (LAST, 7))
        self.gives((39, 2 ** 39 - 1, 3), common_cell, 40, (LAST, 7), (LAST - 1, 7))

    def test_by_name(self):
        self.assertEqual(common_cell(other=(1, 1), place=(0, 1), figures=1), (0, 0, 0))

    def test_wrong(self):
        self.fails_in_order(common_cell, [3, (0, 0), (7, 7)], [
            WRONG_FIGURES, wrong_places("place", 3), wrong_places("other", 3)])


class ShortTreeTest(Case):

    def test_few(self):
        self.gives(None, short_tree, 0, [])
        self.gives(None, short_tree, 40, ())
        self.gives((0, 0), short_tree, 0, [(0, 0)])
        self.gives((5, 4), short_tree, 3, ((5, 4),))
        self.gives(((0, 0, 0), ((0, 0), None, None, (1, 1))), short_tree, 1, [(1, 1), (0, 0)])
        self.gives(((2, 2, 2), ((4, 4), (5, 4), None, None)), short_tree, 3, [(5, 4), (4, 4)])
        self.gives(TREE, short_tree, 3, FIVE)
        self.gives(TREE, short_tree, 3, tuple(FIVE[::-1]))

    def test_against_the_words(self):
        for figures, points, tree in trees(300, 1):
            self.gives(tree, short_tree, figures, points)
            self.gives(tree, short_tree, figures, tuple(DRAWN.sample(points, len(points))))

    def test_facts(self):
        for points in [many_points(many) for many in (2, 3, 20, 60)]:
            tree = short_tree(40, points)
            cells = [cell for cell in naive.split_cells(40, 1, points)
                     if len([part for part in naive.parts_of(cell)
                             if any(naive.has(40, part, point) for point in points)]) > 1]
            self.assertEqual(naive.forks(tree), cells)
            self.assertLess(len(cells), len(points))

    def test_deepest(self):
        points = [(LAST, LAST)] + [(LAST - 2 ** k, LAST) for k in range(40)]
        tree = short_tree(40, points)
        self.assertEqual(len(naive.forks(tree)), 40)
        self.assertEqual(tree, made(40, points))
        self.assertEqual(places_in(40, tree), sorted(points, key=lambda point: naive.code(40, point)))

    def test_500_points(self):
        points = many_points(500)
        self.assertEqual(short_tree(40, points), made(40, points))

    def test_by_name(self):
        self.assertEqual(short_tree(points=[(1, 1)], figures=1), (1, 1))

    def test_wrong(self):
        self.fails_in_order(short_tree, [3, [(0, 0)]], [WRONG_FIGURES, wrong_square_points(3)])


def spoilt(tree, path, value):
    """Return a tree with something else at a path."""
    if not path:
        return value
    return (tree[0], tuple([spoilt(part, path[1:], value) if k == path[0] else part for k, part in enumerate(tree[1])]))


class IsShortTest(Case):

    def test_trees(self):
        self.gives(True, is_short, 0, None)
        self.gives(True, is_short, 40, None)
        self.gives(True, is_short, 0, (0, 0))
        self.gives(True, is_short, 40, (LAST, LAST))
        self.gives(True, is_short, 3, TREE)
        for figures, points, tree in trees(200, 2):
            self.gives(True, is_short, figures, tree)

    def test_no_trees(self):
        for path, value in NO_SHORT_TREES:
            self.gives(False, is_short, 3, value)
        self.gives(False, is_short, 2, TREE)
        self.gives(False, is_short, 0, ((0, 0, 0), ((0, 0), (0, 0), None, None)))

    def test_500_and_501(self):
        self.gives(True, is_short, 40, made(40, many_points(500)))
        for path, value in overfull():
            self.gives(False, is_short, 5, value)

    def test_by_name(self):
        self.assertIs(is_short(thing=(0, 1), figures=1), True)

    def test_wrong(self):
        self.fails_in_order(is_short, [3, None], [WRONG_FIGURES, []])
        self.fails_in_order(is_short, [3, "no tree"], [WRONG_FIGURES, []])


CALLS = [
    lambda figures, tree: places_in(figures, tree), lambda figures, tree: put_short(figures, tree, (0, 0)),
    lambda figures, tree: taken_short(figures, tree, (0, 0)), lambda figures, tree: way_to(figures, tree, (0, 0)),
    lambda figures, tree: put_short(figures, tree, None), lambda figures, tree: way_to(figures, tree, [0, 0]),
]


class WrongTreesTest(Case):

    def test_known_paths(self):
        for path, value in NO_SHORT_TREES:
            for call in CALLS:
                self.fails_at_tree(path, call, 3, value)

    def test_too_many(self):
        for path, value in overfull():
            for call in CALLS:
                self.fails_at_tree(path, call, 5, value)
            self.fails_at_tree(path, places_in, 5, spoilt(value, path, "x"))

    def test_each_part_spoilt(self):
        things = [0, [], (), (0, 0), (3, 3), INNER, TREE, ((0, 0, 0), NO_PARTS), None, ((1, 1, 0), ((4, 0), (6, 0), None,
                  None)), ((1, 0, 0), ((0, 0), (2, 0), (0, 2), (3, 3)))]
        count = 0
        for figures, points, tree in trees(200, 3):
            for path, good in naive.places_and_forks(figures, tree, (), (0, 0, 0)):
                for value in things:
                    bad = spoilt(tree, path, value)
                    fault = naive.fault(figures, bad)
                    if fault is None:
                        self.gives(True, is_short, figures, bad)
                    else:
                        count += 1
                        self.gives(False, is_short, figures, bad)
                        self.fails_at_tree(fault, places_in, figures, bad)
        self.assertGreater(count, 1000)

    def test_figures_first(self):
        for call in CALLS:
            for figures in (None, 41, True):
                self.fails_at_number("figures", call, figures, "no tree")


class PlacesInTest(Case):

    def test_few(self):
        self.gives([], places_in, 3, None)
        self.gives([(1, 2)], places_in, 3, (1, 2))
        self.gives([(0, 0), (0, 1), (5, 4), (7, 4), (5, 6)], places_in, 3, TREE)

    def test_against_the_words(self):
        for figures, points, tree in trees(200, 4):
            self.gives(sorted(points, key=lambda place: naive.code(figures, place)), places_in, figures, tree)

    def test_500_points(self):
        points = many_points(500)
        self.gives(sorted(points, key=lambda point: naive.code(40, point)), places_in, 40, made(40, points))

    def test_by_name(self):
        self.assertEqual(places_in(tree=(0, 1), figures=1), [(0, 1)])

    def test_wrong(self):
        self.fails_in_order(places_in, [3, TREE], [WRONG_FIGURES, wrong_pairs(NO_SHORT_TREES, errors.InvalidTree,
                                                                             "path")])


class PutShortTest(Case):

    def test_few(self):
        self.gives((0, 0), put_short, 0, None, (0, 0))
        self.gives(((0, 0, 0), ((0, 0), None, None, (7, 7))), put_short, 3, (7, 7), (0, 0))
        self.gives(((2, 0, 0), ((0, 0), (1, 0), None, None)), put_short, 3, (1, 0), (0, 0))

    def test_each_place(self):
        for figures, points, tree in trees(150, 5):
            for place in naive.all_places(figures):
                if place in points:
                    self.fails(errors.AlreadyThere, "point", place, put_short, figures, tree, place)
                else:
                    told = naive.short(figures, points + [place])
                    self.gives(told, put_short, figures, tree, place)
                    self.assertIn(len(naive.forks(told)) - len(naive.forks(tree)), (0, 1))

    def test_500_points(self):
        points = many_points(501)
        tree = made(40, points[:499])
        self.assertEqual(put_short(40, tree, points[499]), made(40, points[:500]))
        full = made(40, points[:500])
        self.too_large(500, put_short, 40, full, points[500])
        self.fails(errors.AlreadyThere, "point", points[7], put_short, 40, full, points[7])

    def test_by_name(self):
        self.assertEqual(put_short(point=(1, 1), tree=None, figures=1), (1, 1))

    def test_wrong(self):
        self.fails_in_order(put_short, [3, TREE, (7, 7)], [
            WRONG_FIGURES, wrong_pairs(NO_SHORT_TREES, errors.InvalidTree, "path"), wrong_places("point", 3)])
        full = made(40, many_points(500))
        self.fails(errors.Mismatch, "name", "point", put_short, 40, full, (LAST + 1, 0))


class TakenShortTest(Case):

    def test_few(self):
        self.gives(None, taken_short, 0, (0, 0), (0, 0))
        self.gives((7, 7), taken_short, 3, ((0, 0, 0), ((0, 0), None, None, (7, 7))), (0, 0))

    def test_each_place(self):
        for figures, points, tree in trees(150, 6):
            for place in naive.all_places(figures):
                if place in points:
                    told = naive.short(figures, [point for point in points if point != place])
                    self.gives(told, taken_short, figures, tree, place)
                    self.assertIn(len(naive.forks(tree)) - len(naive.forks(told)), (0, 1))
                else:
                    self.fails(errors.NotThere, "point", place, taken_short, figures, tree, place)

    def test_500_points(self):
        points = many_points(500)
        tree = made(40, points)
        for index in (0, 77, 499):
            self.assertEqual(taken_short(40, tree, points[index]), made(40, points[:index] + points[index + 1:]))

    def test_by_name(self):
        self.assertIsNone(taken_short(point=(1, 1), tree=(1, 1), figures=1))

    def test_wrong(self):
        self.fails_in_order(taken_short, [3, TREE, (0, 1)], [
            WRONG_FIGURES, wrong_pairs(NO_SHORT_TREES, errors.InvalidTree, "path"), wrong_places("point", 3)])


class WayToTest(Case):

    def test_few(self):
        self.gives([], way_to, 3, None, (0, 0))
        self.gives([(1, 2)], way_to, 3, (1, 2), (1, 2))
        self.gives([(1, 2)], way_to, 3, (1, 2), (7, 7))
        self.gives([(0, 0, 0), (1, 1, 1), (7, 4)], way_to, 3, TREE, (7, 5))
        self.gives([(0, 0, 0), (1, 1, 1)], way_to, 3, TREE, (7, 7))
        self.gives([(0, 0, 0)], way_to, 3, TREE, (7, 0))
        self.gives([(0, 0, 0), (2, 0, 0)], way_to, 3, TREE, (3, 3))
        self.gives([(0, 0, 0), (2, 0, 0)], way_to, 3, TREE, (1, 1))
        self.gives([(2, 0, 0)], way_to, 3, INNER, (7, 7))

    def test_each_place(self):
        for figures, points, tree in trees(150, 7):
            for place in naive.all_places(figures):
                self.gives(naive.way(figures, tree, place), way_to, figures, tree, place)

    def test_deepest(self):
        points = [(LAST, LAST)] + [(LAST - 2 ** k, LAST) for k in range(40)]
        self.gives([(k, 2 ** k - 1, 2 ** k - 1) for k in range(40)] + [(LAST, LAST)],
                   way_to, 40, made(40, points), (LAST, LAST))

    def test_by_name(self):
        self.assertEqual(way_to(place=(0, 1), tree=(0, 0), figures=1), [(0, 0)])

    def test_wrong(self):
        self.fails_in_order(way_to, [3, TREE, (7, 7)], [
            WRONG_FIGURES, wrong_pairs(NO_SHORT_TREES, errors.InvalidTree, "path"), wrong_places("place", 3)])


if __name__ == "__main__":
    unittest.main()
