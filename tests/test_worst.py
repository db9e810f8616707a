"""Tests of the greatest numbers of visits [10.1] to [10.4]."""

import itertools
import random
import time
import unittest

import naive
import naive_middles
import naive_worst
from asking import Case
from naive_worst import STATES
from planesplits import errors
from planesplits.middles import middle, middle_counted, useless_visits
from planesplits.numbers import shape_points
from planesplits.quarters import built, is_quarter
from planesplits.worst import most_counted, most_in_quarter, most_useless, worst_counted, worst_useless
from samples import (LEAF, NOTHING_WANTED, TREE, WRONG_TREES, from_both_ends, in_two_lines, line, long_chain, stairs,
                     wrong, wrong_numbers)

PAIRS = [(x, y) for x in STATES for y in STATES]
NO_STATES = NOTHING_WANTED + [None, 0, 1, 3, "", "Low", "LOW", "lows", " low", "low ", "non", "None", "all", b"low",
                              ("low",), ["both"], ["low"], (), [], {"low": 1}]


def wrong_states(name):
    return wrong(NO_STATES, errors.InvalidNumber, "name", name)


class MostTest(Case):

    def test_few(self):
        for x, y in PAIRS:
            self.gives(0, most_useless, 0, 0, x, y)
            self.gives(0, most_counted, 0, 1, x, y)
            self.gives(0 if x == y == "none" else 1, most_useless, 1, 0, x, y)
            self.gives(1, most_counted, 1, 0, x, y)
        self.gives(4, most_useless, 7, 0, "low", "none")
        self.gives(6, most_useless, 7, 0, "both", "none")
        self.gives(1, most_counted, 3, 0, "none", "none")
        self.gives(1, most_counted, 10 ** 18, 1, "none", "none")
        self.gives(0, most_useless, 10 ** 18, 0, "none", "none")

    def test_against_the_words(self):
        for is_counted, function in ((False, most_useless), (True, most_counted)):
            known = {}
            for many in list(range(70)) + [127, 128, 129, 10 ** 9, 2 ** 59 - 1, 2 ** 59, 10 ** 18 - 1, 10 ** 18]:
                for axis in (0, 1):
                    for x, y in PAIRS:
                        wanted = naive_worst.greatest(many, axis, x, y, is_counted, known)
                        self.assertEqual(function(many, axis, x, y), wanted)

    def test_against_all_small_sets(self):
        for is_counted, function in ((False, most_useless), (True, most_counted)):
            for many in range(5):
                for x, y in PAIRS:
                    for axis in (0, 1) if many < 4 else (0,):
                        wanted = naive_worst.searched(many, axis, x, y, is_counted)
                        self.gives(wanted, function, many, axis, x, y)

    def test_is_never_passed(self):
        # Points with equal coordinates, and rectangles that end at points, do not lead further.
        generator = random.Random(1)
        for turn in range(1500):
            many = generator.randrange(1, 12)
            points = generator.sample([(x, y) for x in range(4) for y in range(4)], many)
            x, y = generator.choice(PAIRS)
            rectangle = generator.choice(naive_worst.rectangles(x, y, range(-1, 5)))
            self.assertLessEqual(useless_visits(points, rectangle), most_useless(many, 0, x, y))
            self.assertLessEqual(len(middle_counted(middle(points), rectangle)[1]), most_counted(many, 0, x, y))

    def test_facts(self):
        for many in list(range(40)) + [1000, 12345678901, 10 ** 18]:
            for axis in (0, 1):
                for x, y in PAIRS:
                    useless, counted = most_useless(many, axis, x, y), most_counted(many, axis, x, y)
                    self.assertEqual(useless, most_useless(many, 1 - axis, y, x))
                    self.assertEqual(counted, most_counted(many, 1 - axis, y, x))
                    self.assertTrue(useless <= counted <= many)
                    for function, number in ((most_useless, useless), (most_counted, counted)):
                        for less in (("none", "low", "high") if x == "both" else ("none",)):
                            self.assertLessEqual(function(many, axis, less, y), number)
                        for less in (("none", "low", "high") if y == "both" else ("none",)):
                            self.assertLessEqual(function(many, axis, x, less), number)
        self.assertNotEqual(most_useless(2, 0, "low", "none"), most_useless(2, 0, "high", "none"))

    def test_quick(self):
        start = time.perf_counter()
        for axis in (0, 1):
            for x, y in PAIRS:
                for turn in range(5):
                    most_useless(10 ** 18 - turn, axis, x, y)
                    most_counted(10 ** 18 - turn, axis, x, y)
        self.assertLess(time.perf_counter() - start, 4)

    def test_by_name(self):
        self.assertEqual(most_useless(y="none", x="low", axis=0, many=7), 4)
        self.assertEqual(most_counted(y="none", x="none", axis=0, many=7), 1)

    def test_wrong(self):
        for function in (most_useless, most_counted):
            self.fails_in_order(function, [3, 0, "low", "both"], [
                wrong_numbers("many", 0, 10 ** 18), wrong_numbers("axis", 0, 1), wrong_states("x"), wrong_states("y")])


class WorstTest(Case):

    def reaches(self, many, x, y):
        for function, most in ((worst_useless, most_useless), (worst_counted, most_counted)):
            points, rectangle = function(many, x, y)
            self.assertIsInstance(points, list)
            self.assertEqual(len({point for point in points if naive.is_point(point)}), many)
            self.assertEqual(len(points), many)
            self.assertIsInstance(rectangle, tuple)
            self.assertEqual([end is not None for end in rectangle],
                             [x in ("low", "both"), y in ("low", "both"), x in ("high", "both"), y in ("high", "both")])
            if function == worst_useless:
                self.assertEqual(useless_visits(points, rectangle), most(many, 0, x, y))
            else:
                self.assertEqual(len(middle_counted(middle(points), rectangle)[1]), most(many, 0, x, y))

    def test_reach_the_greatest_numbers(self):
        for many in list(range(34)) + [63, 64, 65, 127, 128, 200, 255, 256, 299, 300]:
            for x, y in PAIRS:
                self.reaches(many, x, y)

    def test_against_the_words(self):
        for x, y in PAIRS:
            points, rectangle = worst_useless(40, x, y)
            self.assertEqual(naive_middles.useless(naive_middles.build(points), rectangle), most_useless(40, 0, x, y))
            points, rectangle = worst_counted(40, x, y)
            visited = naive_middles.counted(naive_middles.build(points), rectangle)[1]
            self.assertEqual(len(visited), most_counted(40, 0, x, y))

    def test_is_new_and_the_same(self):
        for function in (worst_useless, worst_counted):
            for many in (0, 1, 5, 300):
                told = function(many, "both", "low")
                self.gives(told, function, many, "both", "low")
            self.gives(([], (None, None, None, None)), function, 0, "none", "none")

    def test_by_name(self):
        self.assertEqual(worst_useless(y="none", x="none", many=0), ([], (None, None, None, None)))
        self.assertEqual(worst_counted(y="none", x="none", many=0), ([], (None, None, None, None)))

    def test_wrong(self):
        for function in (worst_useless, worst_counted):
            self.fails_in_order(function, [3, "low", "both"], [
                wrong_numbers("many", 0, 300), wrong_states("x"), wrong_states("y")])


class QuarterTest(Case):

    def test_few(self):
        for x, y in PAIRS:
            self.gives(0, most_in_quarter, None, x, y)
            self.gives(0 if x == y == "none" else 1, most_in_quarter, built([(1, 1)]), x, y)
        self.gives(500, most_in_quarter, long_chain(3, 500), "low", "none")
        self.gives(0, most_in_quarter, long_chain(3, 500), "none", "none")
        # Below the ends is each node of a chain of part 3, but for part 0 it can be only one, the first one above them.
        self.gives(1, most_in_quarter, long_chain(0, 500), "low", "none")

    def test_against_the_words(self):
        generator = random.Random(2)
        for turn in range(60):
            points = generator.sample([(x, y) for x in range(6) for y in range(6)], generator.randrange(9))
            tree = naive.build(points)
            for x, y in PAIRS:
                self.gives(naive_worst.in_quarter(tree, x, y), most_in_quarter, tree, x, y)

    def test_larger_ones_against_the_words(self):
        generator = random.Random(4)
        for turn in range(60):
            side = generator.choice([3, 7, 12, 40])
            places = [(x, y) for x in range(side) for y in range(side)]
            self.against_the_words(built(generator.sample(places, generator.randrange(min(61, len(places) + 1)))))

    def test_lines_against_the_words(self):
        for many in (1, 2, 3, 7, 30, 60):
            for step_x, step_y in ((1, 1), (1, -1), (0, 1), (1, 0)):
                points = line(many, step_x, step_y)
                for order in (points, points[::-1], from_both_ends(points)):
                    self.against_the_words(built(order))
            self.against_the_words(built(in_two_lines(many)))
            for step_x, step_y in ((1, 1), (1, -1), (-1, 1), (-1, -1)):
                self.against_the_words(built(stairs(many, step_x, step_y)))

    def test_each_form_of_root_against_the_words(self):
        chain = (None, LEAF, None, (LEAF, None, None, None))
        for shape in itertools.product([None, LEAF, chain], repeat=4):
            self.against_the_words(built(shape_points(shape)))

    def against_the_words(self, tree):
        known = {}
        for x, y in PAIRS:
            self.assertEqual(most_in_quarter(tree, x, y), naive_worst.in_quarter(tree, x, y, (), known), (tree, x, y))

    def test_against_all_small_trees(self):
        for many in range(4):
            best = {}
            shapes = {}
            for tree in naive_worst.quarter_trees(many):
                shape = naive_worst.shape(tree)
                shapes[shape] = tree
                for x, y in PAIRS:
                    for rectangle in naive_worst.rectangles(x, y, range(-1, 2 * many)):
                        number = naive_worst.useless_in_quarter(tree, rectangle)
                        best[(shape, x, y)] = max(best.get((shape, x, y), 0), number)
            for (shape, x, y), number in best.items():
                self.gives(number, most_in_quarter, shapes[shape], x, y)

    def test_does_not_hang_on_the_points(self):
        generator = random.Random(3)
        for turn in range(40):
            points = generator.sample([(x, y) for x in range(9) for y in range(9)], 9)
            tree = built(points)
            other = built([(x ** 3 - 700, 5 * y) for x, y in points])
            for x, y in PAIRS:
                self.assertEqual(most_in_quarter(tree, x, y), most_in_quarter(other, x, y))

    def test_500_nodes(self):
        tree = built([(k * 7919 % 500, k * 104729 % 499) for k in range(500)])
        self.assertTrue(is_quarter(tree))
        start = time.perf_counter()
        told = [most_in_quarter(tree, x, y) for x, y in PAIRS]
        told += [most_in_quarter(built(line(500, 1, -1)), x, y) for x, y in PAIRS]
        self.assertLess(time.perf_counter() - start, 3)
        self.assertEqual(told[0], 0)
        self.assertLessEqual(max(told), 500)

    def test_by_name(self):
        self.assertEqual(most_in_quarter(y="none", x="low", tree=TREE), naive_worst.in_quarter(TREE, "low", "none"))

    def test_wrong(self):
        self.fails_in_order(most_in_quarter, [TREE, "low", "both"], [WRONG_TREES, wrong_states("x"), wrong_states("y")])


if __name__ == "__main__":
    unittest.main()
