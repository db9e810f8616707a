"""Tests of the index [14.1] to [14.3]."""

import random
import time
import unittest

import naive
import naive_middles
import naive_squares
from asking import Case
from planesplits import errors
from planesplits.cells import leaves
from planesplits.forest import Forest
from planesplits.live import Index
from planesplits.middles import is_middle
from planesplits.quarters import is_quarter
from samples import (FAR, NO_POINTS, NO_RECTANGLES, NOTHING_WANTED, WRONG_CAPS, WRONG_FIGURES, drawn_rectangle,
                     no_numbers, no_places)

ALL = (None, None, None, None)
LAST = 2 ** 40 - 1


def told(index):
    """Return all that the methods tell without arguments."""
    return [index.points(), index.quarter(), index.middle(), index.leaves(), index.deeds()]


def deed_of(state, deed):
    """Return the points, the quarter tree and the middle tree behind a deed, by the words of the document."""
    points, quarter, middle = state
    word, point = deed[:2]
    points = list(points)
    if word in ("take", "move"):
        points.remove(point)
        quarter, middle = naive.remove(quarter, point), naive_middles.taken(middle, point)
    if word in ("put", "move"):
        point = deed[-1]
        points.append(point)
        quarter, middle = naive.insert(quarter, point), naive_middles.put(middle, point)
    return sorted(points), quarter, middle


def cells_visited(figures, cap, points, rectangle):
    """Return how many cells are visited, by the words of the document."""
    def look(cell):
        inside = [point for point in points if naive_squares.has(figures, cell, point)]
        many = 1
        for part in naive_squares.parts_of(cell) if len(inside) > cap else []:
            if any(naive.inside(place, rectangle) for place in naive_squares.places_of(figures, part)):
                many += look(part)
        return many
    return look((0, 0, 0))


class DeedsTest(Case):

    def asks(self, index, states, deeds, generator):
        """Ask for all that an index tells behind some deeds."""
        points, quarter, middle = states[-1]
        wanted = [points, quarter, middle, naive_squares.leaves(index.figures, index.cap, points), deeds]
        self.assertEqual(told(index), wanted)
        rectangle = drawn_rectangle(generator, -2, 2 ** index.figures + 1)
        visits = (len(naive.ranged(quarter, rectangle)[1]), len(naive_middles.ranged(middle, rectangle)[1]),
                  cells_visited(index.figures, index.cap, points, rectangle))
        found = [point for point in points if naive.inside(point, rectangle)]
        self.gives((found, visits), index.search, rectangle)
        point = (generator.randrange(-2, 10), generator.randrange(-2, 10))
        best, visited = naive.nearest(quarter, point)
        distance = None if best is None else naive.distance(best, point)
        self.gives((distance, (len(visited), len(naive_middles.nearest(middle, point)[1]))), index.near, point)
        self.refuses(index, points, generator)
        self.assertEqual(told(index), wanted)

    def refuses(self, index, points, generator):
        """Ask for the errors of deeds that are refused."""
        side = 2 ** index.figures
        free = [place for place in naive_squares.all_places(index.figures) if place not in points]
        for place in generator.sample(no_places(index.figures), 3):
            self.fails_at_point(place, index.put, place)
            self.fails_at_point(place, index.take, place)
            self.fails_at_point(place, index.move, place, (side, side))
            self.fails_at_point(place, index.move, (0, 0), place)
        if points:
            point = generator.choice(points)
            self.fails(errors.AlreadyThere, "point", point, index.put, point)
            self.fails(errors.AlreadyThere, "point", point, index.move, point, point)
            self.fails(errors.AlreadyThere, "point", points[0], index.move, point, points[0])
        if free:
            place = generator.choice(free)
            self.fails(errors.NotThere, "point", place, index.take, place)
            self.fails(errors.NotThere, "point", place, index.move, place, place)
            self.fails(errors.NotThere, "point", place, index.move, place, points[0] if points else free[0])

    def drawn_deed(self, points, free, generator):
        words = (["put"] * 3 if free else []) + (["take"] if points else []) + (["move"] if free and points else [])
        word = generator.choice(words)
        if word == "put":
            return (word, generator.choice(free))
        if word == "take":
            return (word, generator.choice(points))
        return (word, generator.choice(points), generator.choice(free))

    def does(self, index, deed):
        method = {"put": index.put, "take": index.take, "move": index.move}[deed[0]]
        self.assertIsNone(method(*deed[1:]))

    def test_rows_of_deeds(self):
        generator = random.Random(1)
        for turn in range(40):
            index = Index(generator.randrange(4), generator.choice([1, 1, 2, 3, 500]))
            places = naive_squares.all_places(index.figures)
            states, deeds = [([], None, None)], []
            self.asks(index, states, deeds, generator)
            for step in range(25):
                if generator.random() < 0.25:
                    self.assertIs(index.undo(), bool(deeds))
                    if deeds:
                        deeds.pop()
                        states.pop()
                else:
                    points = states[-1][0]
                    free = [place for place in places if place not in points]
                    deed = self.drawn_deed(points, free, generator)
                    self.does(index, deed)
                    deeds.append(deed)
                    states.append(deed_of(states[-1], deed))
                self.asks(index, states, deeds, generator)
            number = generator.randrange(len(deeds) + 1)
            other = index.at(number)
            self.asks(other, states[:number + 1], deeds[:number], generator)
            self.asks(index, states, deeds, generator)
            self.assertIs(index == other, [index.quarter(), index.middle()] == [other.quarter(), other.middle()])

    def test_few(self):
        index = Index(3, 1)
        self.assertEqual(told(index), [[], None, None, [((0, 0, 0), [])], []])
        self.assertEqual(index.search(ALL), ([], (0, 0, 1)))
        self.assertEqual(index.near((FAR, -FAR)), (None, (0, 0)))
        self.assertIs(index.undo(), False)
        index.put((1, 2))
        index.put((6, 7))
        index.move((1, 2), (2, 2))
        self.assertEqual(index.deeds(), [("put", (1, 2)), ("put", (6, 7)), ("move", (1, 2), (2, 2))])
        self.assertEqual(index.points(), [(2, 2), (6, 7)])
        self.assertEqual(index.middle(), ((6, 7), ((2, 2), None, None), None))
        self.assertEqual(index.near((-1, 2)), (9, (2, 2)))
        self.assertIs(index.undo(), True)
        self.assertEqual(index.points(), [(1, 2), (6, 7)])
        self.assertEqual(index.middle(), ((1, 2), None, ((6, 7), None, None)))
        # The whole square is visited even if nothing of it is asked for.
        self.assertEqual(index.search((9, 9, 9, 9)), ([], (2, 2, 1)))

    def test_only_two_deeds_are_two(self):
        one, other = Index(3, 1), Index(3, 1)
        for index in (one, other):
            index.put((1, 1))
            index.put((5, 5))
        one.move((1, 1), (6, 6))
        other.take((1, 1))
        other.put((6, 6))
        self.assertTrue(one == other)
        self.assertEqual((len(one.deeds()), len(other.deeds())), (3, 4))
        one.undo()
        other.undo()
        self.assertEqual((one.points(), other.points()), ([(1, 1), (5, 5)], [(5, 5)]))

    def test_500_points(self):
        index = Index(40, 1)
        points = [(k * 7919 % 500, k * 104729 % 499) for k in range(500)]
        start = time.perf_counter()
        for point in points:
            index.put(point)
        before = told(index)
        self.fails(errors.TooLarge, "limit", 500, index.put, (LAST, LAST))
        self.fails(errors.AlreadyThere, "point", points[3], index.put, points[3])
        self.assertEqual(told(index), before)
        index.move(points[0], (LAST, LAST))
        self.assertEqual(len(index.points()), 500)
        index.undo()
        self.assertEqual(told(index), before)
        for turn in range(20):
            index.search((3, None, 300, 200 + turn))
            index.near((turn, FAR))
        self.assertEqual(index.leaves(), leaves(40, 1, points))
        self.assertTrue(is_quarter(index.quarter()) and is_middle(index.middle()))
        self.assertLess(time.perf_counter() - start, 3)

    def test_points_in_a_line(self):
        start = time.perf_counter()
        index = Index(40, 500)
        for k in range(500):
            index.put((k, k))
        other = index.at(500)
        self.assertTrue(index == other)
        self.assertEqual(index.search((None, None, 9, 9)), ([(k, k) for k in range(10)], (11, 11, 1)))
        other.take((250, 250))
        self.assertFalse(index == other)
        while index.undo():
            pass
        self.assertTrue(index == Index(40, 500))
        self.assertTrue(other.at(499) == other.at(499) and not other.at(499) == other.at(498))
        self.assertLess(time.perf_counter() - start, 4)

    def test_many_cells(self):
        # Each two neighbours lie together in many cells.
        index = Index(40, 1)
        for k in range(250):
            index.put((k * 2 ** 32, 0))
            index.put((k * 2 ** 32 + 1, 0))
        start = time.perf_counter()
        self.assertEqual(index.search((0, 1, LAST, 1))[1][2], cells_by_leaves(index))
        self.assertEqual(index.search((0, 2 ** 39, LAST, LAST))[1][2], 3)
        self.assertLess(time.perf_counter() - start, 1)


def cells_by_leaves(index):
    """Return how many cells, of all that are leaves or split, have places in the row 1."""
    found = {}
    for (level, i, j), points in index.leaves():
        while level >= 0:
            if (level, i, j) not in found and j << 40 - level <= 1 < (j + 1) << 40 - level:
                found[(level, i, j)] = True
            level, i, j = level - 1, i >> 1, j >> 1
    return len(found)


class FormTest(Case):

    def test_attributes(self):
        for figures, cap in ((0, 1), (40, 500), (3, 7)):
            for index in (Index(figures, cap), Index(cap=cap, figures=figures)):
                self.assertEqual((index.figures, index.cap), (figures, cap))

    def test_is_new(self):
        index = Index(3, 1)
        index.put((1, 2))
        index.put((3, 3))
        for method in (index.points, index.leaves, index.deeds):
            before = method()
            method().append(5)
            self.assertEqual(method(), before)
        index.leaves()[0][1].append(5)
        index.search(ALL)[0].append(5)
        self.assertEqual(index.leaves(), leaves(3, 1, [(1, 2), (3, 3)]))
        self.assertEqual(index.search(ALL)[0], [(1, 2), (3, 3)])

    def test_at(self):
        index = Index(3, 1)
        for value in no_numbers(0, 0):
            self.fails_at_number("number", index.at, value)
        index.put((1, 2))
        index.put((3, 3))
        other = index.at(number=1)
        self.assertIsNot(index.at(2), index)
        self.assertEqual((other.points(), other.figures, other.cap), ([(1, 2)], 3, 1))
        other.put((7, 7))
        index.take((1, 2))
        self.assertEqual((index.points(), other.points()), ([(3, 3)], [(1, 2), (7, 7)]))
        self.assertEqual((len(index.deeds()), len(other.deeds())), (3, 2))
        other.undo()
        other.undo()
        self.assertIs(other.undo(), False)
        self.assertEqual(index.points(), [(3, 3)])
        for value in no_numbers(0, 3):
            self.fails_at_number("number", index.at, value)

    def test_equal(self):
        one, other = Index(3, 1), Index(3, 1)
        self.assertTrue(one == other and not one != other)
        self.assertFalse(one == Index(4, 1) or one == Index(3, 2))
        one.put((1, 1))
        self.assertFalse(one == other)
        one.take((1, 1))
        self.assertTrue(one == other)
        one.put((1, 1))
        one.put((2, 2))
        other.put((2, 2))
        other.put((1, 1))
        self.assertFalse(one == other)
        for value in NOTHING_WANTED[:-1] + [None, 0, Forest(), told(one), one.quarter()]:
            self.assertIs(one == value, False)
            self.assertIs(one != value, True)

    def test_equal_quarter_trees_alone_are_not_enough(self):
        one, other = Index(3, 1), Index(3, 1)
        # The points 1, 2 and 3 lie in three parts of the first one, so their order does not matter there.
        for index, points in ((one, [(4, 4), (1, 1), (1, 7)]), (other, [(4, 4), (1, 7), (1, 1)])):
            for point in points:
                index.put(point)
        self.assertEqual(one.quarter(), other.quarter())
        self.assertNotEqual(one.middle(), other.middle())
        self.assertFalse(one == other)

    def test_by_name(self):
        index = Index(3, 1)
        index.put(point=(1, 1))
        index.move(place=(2, 2), point=(1, 1))
        self.assertEqual(index.search(rectangle=ALL), ([(2, 2)], (1, 1, 1)))
        self.assertEqual(index.near(point=(2, 3)), (1, (1, 1)))
        index.take(point=(2, 2))
        self.assertEqual(index.points(), [])

    def test_wrong(self):
        self.fails_in_order(Index, [3, 1], [WRONG_FIGURES, WRONG_CAPS])
        index = Index(3, 1)
        index.put((1, 1))
        before = told(index)
        for value in no_places(3):
            self.fails_at_point(value, index.put, value)
            self.fails_at_point(value, index.take, value)
            self.fails_at_point(value, index.move, value, None)
            self.fails_at_point(value, index.move, (5, 5), value)
        for value in NO_POINTS:
            self.fails_at_point(value, index.near, value)
        for value in NO_RECTANGLES:
            self.fails_at_rectangle(value, index.search, value)
        self.fails(errors.NotThere, "point", (5, 5), index.move, (5, 5), (1, 1))
        self.assertEqual(told(index), before)


if __name__ == "__main__":
    unittest.main()
