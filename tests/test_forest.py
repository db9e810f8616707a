"""Tests of the forests [9.1] to [9.4]."""

import random
import time
import unittest

import naive_middles
from asking import Case
from naive_worst import STATES, greatest
from planesplits import errors
from planesplits.forest import Forest, cost_of, forest_most
from planesplits.live import Index
from planesplits.middles import middle
from planesplits.worst import most_useless
from samples import (FAR, NO_POINT_LISTS, NO_POINTS, NO_RECTANGLES, NOTHING_WANTED, drawn_rectangle, line,
                     wrong_numbers)
from test_worst import wrong_states

ALL = (None, None, None, None)
THREE = [(0, 0), (4, 1), (2, 5)]


def told(forest):
    """Return all that the methods tell without arguments."""
    return [forest.trees(), forest.points(), forest.gone(), forest.moved()]


def told_by_words(slow):
    there = sorted([point for point in slow.known() if point not in slow.lost])
    return [slow.rows, there, sorted(slow.lost), slow.cost]


class DeedsTest(Case):

    def asks(self, forest, slow, generator):
        """Ask for all that a forest tells, and for errors of wrong deeds, which change nothing."""
        self.assertEqual(told(forest), told_by_words(slow))
        rectangle = drawn_rectangle(generator, -1, 6)
        point = (generator.randrange(-1, 7), generator.randrange(-1, 7))
        self.gives(slow.ranged(rectangle), forest.ranged, rectangle)
        self.gives(slow.counted(rectangle), forest.counted, rectangle)
        self.gives(slow.nearest(point), forest.nearest, point)
        for other in forest.points()[:2]:
            self.fails(errors.AlreadyThere, "point", other, forest.put, other)
        for other in forest.gone()[:2] + [(-7, 7)]:
            self.fails(errors.NotThere, "point", other, forest.take, other)
        self.assertEqual(told(forest), told_by_words(slow))

    def test_rows_of_deeds(self):
        generator = random.Random(1)
        for turn in range(60):
            forest, slow = Forest(), naive_middles.Forest()
            self.asks(forest, slow, generator)
            taking = generator.choice([0.2, 0.4, 0.6])
            for deed in range(25):
                there, lost = forest.points(), forest.gone()
                if there and generator.random() < taking:
                    point = generator.choice(there)
                    wanted = slow.take(point)
                    self.assertEqual(forest.take(point), wanted)
                else:
                    free = [(x, y) for x in range(6) for y in range(6) if (x, y) not in there]
                    point = generator.choice(lost if lost and generator.random() < 0.3 else free)
                    wanted = slow.put(point)
                    self.assertEqual(forest.put(point), wanted)
                self.asks(forest, slow, generator)

    def test_few(self):
        forest = Forest()
        self.assertEqual(told(forest), [[], [], [], 0])
        self.assertEqual(forest.put((1, 1)), 1)
        self.assertEqual(told(forest), [[((1, 1), None, None)], [(1, 1)], [], 1])
        self.assertEqual(forest.take((1, 1)), 0)
        self.assertEqual(told(forest), [[], [], [], 1])
        self.fails(errors.NotThere, "point", (1, 1), forest.take, (1, 1))
        self.assertEqual(forest.put((1, 1)), 1)
        self.assertEqual(forest.put((0, 9)), 2)
        self.assertEqual(forest.trees(), [None, ((1, 1), ((0, 9), None, None), None)])
        # One of two is not more than half.
        self.assertEqual(forest.take((1, 1)), 0)
        self.assertEqual(told(forest)[1:], [[(0, 9)], [(1, 1)], 4])
        self.assertEqual(forest.put((1, 1)), 0)
        self.assertEqual(told(forest)[1:], [[(0, 9), (1, 1)], [], 4])

    def test_made_anew(self):
        points = [(k * 5 % 13, k) for k in range(13)]
        forest = Forest(points)
        for point in points[:6]:
            self.assertEqual(forest.take(point), 0)
        cost = forest.moved()
        self.assertEqual(forest.take(points[6]), 6)
        left = sorted(points[7:])
        self.assertEqual(told(forest), [[None, middle(left[4:]), middle(left[:4])], left, [], cost + 6])

    def test_points_that_are_gone_are_visited(self):
        forest = Forest([(0, 0), (4, 1), (2, 5), (9, 9)])
        forest.take((2, 5))
        self.assertEqual(forest.gone(), [(2, 5)])
        found, visited = forest.ranged(ALL)
        self.assertEqual((sorted(found), sorted(visited)), ([(0, 0), (4, 1), (9, 9)], [(0, 0), (2, 5), (4, 1), (9, 9)]))
        self.assertEqual(forest.counted(ALL), (3, [forest.trees()[2][0]]))
        best, visited = forest.nearest((2, 5))
        self.assertEqual(best, (4, 1))
        self.assertIn((2, 5), visited)

    def test_no_tree_behind_a_point_that_is_met(self):
        forest = Forest(THREE)
        self.gives(((2, 5), [(2, 5)]), forest.nearest, (2, 5))
        self.gives(((4, 1), [(2, 5), (4, 1)]), forest.nearest, (4, 1))
        self.gives((None, []), Forest().nearest, (0, 0))

    def test_500_points(self):
        points = [(k * 7919 % 500, k * 104729 % 499) for k in range(500)]
        start = time.perf_counter()
        forest = Forest(points[:499])
        self.assertEqual(forest.put(points[499]), 4)
        other = Forest()
        for point in points:
            other.put(point)
        self.assertEqual(forest, other)
        self.assertEqual(told(forest), told(other))
        self.assertEqual(told(Forest(tuple(points))), told(other))
        before = told(forest)
        self.fails(errors.TooLarge, "limit", 500, forest.put, (-1, -1))
        self.fails(errors.AlreadyThere, "point", points[7], forest.put, points[7])
        self.assertEqual(told(forest), before)
        # A point that is gone still stands in its tree, so there is no room for another one.
        forest.take(points[0])
        self.fails(errors.TooLarge, "limit", 500, forest.put, (-1, -1))
        self.assertEqual(forest.put(points[0]), 0)
        self.assertEqual(told(forest), before)
        for point in points[:250]:
            self.assertEqual(forest.take(point), 0)
        self.assertEqual(forest.take(points[250]), 249)
        self.assertEqual(forest.put((-1, -1)), 2)
        self.assertLess(time.perf_counter() - start, 3)
        self.assertEqual([tree is not None for tree in forest.trees()],
                         [False, True, False, True, True, True, True, True])

    def test_far_points(self):
        forest = Forest([(FAR, -FAR)])
        self.assertEqual(forest.nearest((-FAR, FAR)), ((FAR, -FAR), [(FAR, -FAR)]))
        self.assertEqual(forest.counted((None, -FAR, FAR, None)), (1, [(FAR, -FAR)]))


class FormTest(Case):

    def test_is_new_and_a_copy(self):
        points = list(THREE)
        forest = Forest(points)
        points.append((7, 7))
        for method in (forest.trees, forest.points, forest.gone):
            before = method()
            method().append((8, 8))
            self.assertEqual(method(), before)
        forest.ranged(ALL)[0].clear()
        forest.ranged(ALL)[1].clear()
        forest.counted(ALL)[1].clear()
        forest.nearest((0, 0))[1].clear()
        self.assertEqual(told(forest), told(Forest(THREE)))

    def test_equal(self):
        one, other = Forest(THREE), Forest(points=tuple(THREE))
        self.assertTrue(one == other and not one != other and one == one)
        other.take((4, 1))
        self.assertFalse(one == other)
        other.put((4, 1))
        self.assertTrue(one == other)
        # What was moved does not matter, but the trees do.
        other.put((8, 8))
        self.assertFalse(one == other)
        self.assertFalse(Forest([(0, 0), (1, 1)]) == Forest([(0, 0), (1, 2)]))
        self.assertTrue(Forest([(0, 0), (1, 1)]) == Forest([(1, 1), (0, 0)]))
        # The points are the same, but not at the same places.
        self.assertFalse(Forest([(0, 0), (1, 1), (2, 2)]) == Forest([(2, 2), (1, 1), (0, 0)]))
        one, other = Forest([(0, 0), (1, 1)]), Forest([(0, 0), (1, 1)])
        one.take((0, 0))
        other.take((1, 1))
        self.assertFalse(one == other)
        for value in NOTHING_WANTED[:-2] + [None, 0, [], told(one), one.trees(), Index(1, 1)]:
            self.assertIs(one == value, False)
            self.assertIs(one != value, True)
        empty = Forest(THREE)
        for point in THREE:
            empty.take(point)
        self.assertTrue(empty == Forest() and empty == Forest([]) and empty.moved() > 0)

    def test_order_of_taking_away_does_not_matter(self):
        points = [(k, k * k % 7) for k in range(8)]
        one, other = Forest(points), Forest(points)
        for at in (1, 2, 3):
            one.take(points[at])
        for at in (3, 1, 2):
            other.take(points[at])
        self.assertTrue(one == other)

    def test_by_name(self):
        forest = Forest(points=[(0, 0)])
        self.assertEqual(forest.put(point=(1, 1)), 2)
        self.assertEqual(forest.take(point=(1, 1)), 0)
        self.assertEqual(forest.ranged(rectangle=ALL), ([(0, 0)], [(1, 1), (0, 0)]))
        self.assertEqual(forest.counted(rectangle=ALL), (1, [(1, 1)]))
        self.assertEqual(forest.nearest(point=(0, 0)), ((0, 0), [(1, 1), (0, 0)]))

    def test_wrong(self):
        for index, value in NO_POINT_LISTS:
            self.fails_at_points(index, Forest, value)
        forest = Forest(THREE)
        forest.take((4, 1))
        before = told(forest)
        for value in NO_POINTS:
            self.fails_at_point(value, forest.put, value)
            self.fails_at_point(value, forest.take, value)
            self.fails_at_point(value, forest.nearest, value)
        for value in NO_RECTANGLES:
            self.fails_at_rectangle(value, forest.ranged, value)
            self.fails_at_rectangle(value, forest.counted, value)
        self.fails(errors.NotThere, "point", (4, 1), forest.take, (4, 1))
        self.fails(errors.AlreadyThere, "point", (0, 0), forest.put, (0, 0))
        self.assertEqual(told(forest), before)


class NumbersTest(Case):

    def test_cost_of(self):
        total = 0
        for many in range(300):
            if many > 0:
                total += many & -many
            self.gives(total, cost_of, many)
        forest = Forest()
        for many in range(200):
            self.assertEqual((cost_of(many), cost_of(many)), (forest.moved(), Forest(line(many, 1, 2)).moved()))
            forest.put((many, -many))
        # Of the numbers up to 2 ** n, 2 ** (n - 1 - k) have just the power 2 ** k, and one has 2 ** n.
        self.gives(99 * 2 ** 98 + 2 ** 99, cost_of, 2 ** 99)
        self.gives(cost_of(10 ** 30 - 1) + 2 ** 30, cost_of, 10 ** 30)
        self.assertEqual(cost_of(many=3), 4)
        self.fails_in_order(cost_of, [3], [wrong_numbers("many", 0, 10 ** 30)])

    def test_forest_most(self):
        for many in list(range(40)) + [1000, 2 ** 59, 10 ** 18 - 1, 10 ** 18]:
            places = [place for place in range(60) if many // 2 ** place % 2 == 1]
            for x in STATES:
                for y in STATES:
                    self.gives(sum([most_useless(2 ** place, 0, x, y) for place in places]), forest_most, many, x, y)
                    if many < 40:
                        self.assertEqual(forest_most(many, x, y),
                                         sum([greatest(2 ** place, 0, x, y, False) for place in places]))
        start = time.perf_counter()
        for turn in range(100):
            forest_most(10 ** 18 - turn, "both", "both")
        self.assertLess(time.perf_counter() - start, 2)
        self.assertEqual(forest_most(y="none", x="low", many=1), 1)
        self.fails_in_order(forest_most, [3, "low", "both"], [
            wrong_numbers("many", 0, 10 ** 18), wrong_states("x"), wrong_states("y")])

    def test_forest_most_is_never_passed(self):
        generator = random.Random(2)
        for turn in range(200):
            points = generator.sample([(x, y) for x in range(6) for y in range(6)], generator.randrange(20))
            rectangle = drawn_rectangle(generator, -1, 6)
            found, visited = Forest(points).ranged(rectangle)
            states = [{(True, True): "both", (True, False): "low", (False, True): "high", (False, False): "none"}[
                (rectangle[axis] is not None, rectangle[axis + 2] is not None)] for axis in (0, 1)]
            self.assertLessEqual(len(visited) - len(found), forest_most(len(points), states[0], states[1]))


if __name__ == "__main__":
    unittest.main()
