"""Tests of the stretches of codes, and of the search by codes [6.4], [6.5]."""

import random
import time
import unittest

import naive_squares as naive
from asking import Case
from planesplits.shorts import code_of, count_stretches, jumped, next_code, stretch_of, stretches
from samples import FAR_END, WRONG_FIGURES, WRONG_RECTANGLES, wrong_numbers, wrong_square_points

LAST = 2 ** 40 - 1
HALF = 2 ** 39
ALL = (None, None, None, None)


def ends(figures):
    """Return tuples (low, high) of ends on an axis, also such beyond a square."""
    numbers = [None] + list(range(-1, 2 ** figures + 1))
    return [(a, b) for a in numbers for b in numbers if a is None or b is None or a <= b]


def rectangles(figures):
    return [(x, y, x2, y2) for x, x2 in ends(figures) for y, y2 in ends(figures)]


def some_rectangles(figures, many, seed):
    return random.Random(seed).sample(rectangles(figures), many)


def few_places(generator, figures, most):
    """Return a rectangle of a few places of a square, often where large cells begin and end."""
    ends = []
    for axis in (0, 1):
        length = generator.randrange(min(most, 2 ** figures))
        step = 2 ** generator.randrange(figures + 1)
        low = generator.randrange(2 ** figures) // step * step
        low -= generator.choice([0, 1, length, generator.randrange(9)])
        low = max(0, min(low, 2 ** figures - 1 - length))
        ends.append((low, low + length))
    return (ends[0][0], ends[1][0], ends[0][1], ends[1][1])


def codes_of_few(figures, rectangle):
    """Return the ascending codes of all places of a rectangle, one by one."""
    x, y, x2, y2 = rectangle
    return sorted([naive.code(figures, (i, j)) for i in range(x, x2 + 1) for j in range(y, y2 + 1)])


class StretchesTest(Case):

    def test_few(self):
        self.gives([(0, 0)], stretches, 0, ALL)
        self.gives([], stretches, 0, (1, None, None, None))
        self.gives([], stretches, 3, (8, 0, 9, 9))
        self.gives([], stretches, 3, (0, -5, 9, -1))
        self.gives([(0, 63)], stretches, 3, (0, 0, 7, 7))
        self.gives([(0, 63)], stretches, 3, (-FAR_END, -FAR_END, FAR_END, FAR_END))
        self.gives([(0, 1), (4, 5)], stretches, 2, (0, 0, 3, 0))
        self.gives([(0, 4 ** 40 - 1)], stretches, 40, ALL)
        self.gives([(4 ** 40 - 1, 4 ** 40 - 1)], stretches, 40, (LAST, LAST, None, None))

    def test_each_rectangle(self):
        for figures in range(3):
            for rectangle in rectangles(figures):
                runs = naive.runs(naive.codes_in(figures, rectangle))
                self.gives(runs, stretches, figures, rectangle)
                self.gives(len(runs), count_stretches, figures, rectangle)

    def test_larger_squares(self):
        for figures, many in ((3, 1000), (4, 300), (5, 60)):
            for rectangle in some_rectangles(figures, many, figures):
                runs = naive.runs(naive.codes_in(figures, rectangle))
                self.gives(runs, stretches, figures, rectangle)
                self.gives(len(runs), count_stretches, figures, rectangle)

    def test_few_places_in_great_squares(self):
        generator = random.Random(11)
        for turn in range(400):
            figures = generator.choice([6, 7, 13, 20, 31, 32, 33, 39, 40])
            rectangle = few_places(generator, figures, 14)
            runs = naive.runs(codes_of_few(figures, rectangle))
            self.gives(runs, stretches, figures, rectangle)
            self.gives(len(runs), count_stretches, figures, rectangle)

    def test_rows_and_columns_in_great_squares(self):
        generator = random.Random(12)
        for turn in range(60):
            figures = generator.choice([12, 20, 33, 40])
            low = generator.choice([0, 2 ** 11 - 250, generator.randrange(2 ** 12 - 500)])
            across = generator.choice([0, 2 ** figures - 1, generator.randrange(2 ** figures)])
            width = generator.randrange(min(3, 2 ** figures - across))
            for rectangle in ((low, across, low + 400, across + width), (across, low, across + width, low + 400)):
                runs = naive.runs(codes_of_few(figures, rectangle))
                self.gives(len(runs), count_stretches, figures, rectangle)
                if len(runs) <= 1000:
                    self.gives(runs, stretches, figures, rectangle)
                else:
                    self.too_large(1000, stretches, figures, rectangle)

    def test_halves_and_quarters(self):
        for figures in (1, 2, 3, 20, 40):
            half = 2 ** (figures - 1)
            whole = 4 ** figures
            self.gives([(0, whole // 2 - 1)], stretches, figures, (None, None, None, half - 1))
            self.gives([(whole // 2, whole - 1)], stretches, figures, (None, half, None, None))
            self.gives([(0, whole // 4 - 1), (whole // 2, 3 * whole // 4 - 1)], stretches, figures,
                       (None, None, half - 1, None))
            self.gives([(whole // 4, whole // 2 - 1), (3 * whole // 4, whole - 1)], stretches, figures,
                       (half, None, None, None))
            self.gives([(whole // 4, whole // 2 - 1)], stretches, figures, (half, -5, half + 10 ** 20, half - 1))

    def test_what_is_left_of_a_square(self):
        # The stretches without those of a rectangle at the end lie between the others.
        for figures in (3, 5):
            side = 2 ** figures
            for cut in range(1, side):
                for rectangle in ((cut, 0, side - 1, side - 1), (0, cut, side - 1, side - 1),
                                  (0, 0, side - 1 - cut, side - 1), (0, 0, side - 1, side - 1 - cut)):
                    runs = naive.runs(naive.codes_in(figures, rectangle))
                    self.assertEqual((stretches(figures, rectangle), count_stretches(figures, rectangle)),
                                     (runs, len(runs)))

    def test_1000_and_1001(self):
        # Alone in their rows, two neighbouring places in the one direction have neighbouring codes, in the other none.
        self.gives(1000, count_stretches, 40, (5, 0, 5, 999))
        self.assertEqual(stretches(40, (5, 0, 5, 999)), [(code_of(40, (5, y)),) * 2 for y in range(1000)])
        self.gives(1001, count_stretches, 40, (5, 0, 5, 1000))
        self.too_large(1000, stretches, 40, (5, 0, 5, 1000))
        self.gives(1000, count_stretches, 40, (0, LAST, 1999, LAST))
        self.assertEqual(len(stretches(40, (0, LAST, 1999, LAST))), 1000)
        self.too_large(1000, stretches, 40, (0, LAST, 2000, LAST))
        self.too_large(1000, stretches, 40, (1, 1, None, None))

    def test_greatest_numbers(self):
        self.gives(1649267441662, count_stretches, 40, (1, 1, None, None))
        self.gives(2 ** 39, count_stretches, 40, (None, 0, None, 0))
        self.gives(2 ** 40, count_stretches, 40, (0, None, 0, None))
        self.gives(1, count_stretches, 40, ALL)
        self.gives(2, count_stretches, 40, (HALF, None, None, None))
        self.gives(1, count_stretches, 40, (None, HALF, None, None))

    def test_in_the_middle(self):
        for x, y, width, height in [(3, 3, 7, 7), (1, 9, 20, 10), (30, 0, 31, 1), (0, 30, 1, 31), (64, 64, 127, 127)]:
            rectangle = (HALF - x, HALF - y, HALF - x + width, HALF - y + height)
            codes = sorted([code_of(40, (x, y)) for x in range(rectangle[0], rectangle[2] + 1)
                            for y in range(rectangle[1], rectangle[3] + 1)])
            self.gives(naive.runs(codes), stretches, 40, rectangle)
            self.gives(len(naive.runs(codes)), count_stretches, 40, rectangle)

    def test_one_cell_of_each_level(self):
        for level in range(41):
            side = 2 ** (40 - level)
            cell = (level, (2 ** level - 1) // 3, 2 ** level // 2)
            x, y = cell[1] * side, cell[2] * side
            self.gives([stretch_of(40, cell)], stretches, 40, (x, y, x + side - 1, y + side - 1))

    def test_quick(self):
        # Each limit is about half of what the calls take if they go through all places, or all levels.
        for many, most, function, arguments in [
                (2000, 0.12, count_stretches, (40, (1, 1, None, None))), (100, 0.12, stretches, (12, (0, 0, 0, 999))),
                (1000, 0.12, stretches, (40, (5, 5, 12, 12))), (2000, 0.08, stretches, (20, (100, 100, 111, 111))),
                (5000, 0.08, next_code, (40, (5, 5, 12, 12), 4 ** 40 - 1)),
                (100, 0.12, stretches, (40, (5, HALF - 500, 5, HALF + 499)))]:
            took = [self.time_of(many, function, arguments) for turn in range(3)]
            self.assertLess(min(took), most, (function, arguments))

    def time_of(self, many, function, arguments):
        start = time.perf_counter()
        for turn in range(many):
            function(*arguments)
        return time.perf_counter() - start

    def test_by_name(self):
        self.assertEqual(stretches(rectangle=ALL, figures=1), [(0, 3)])
        self.assertEqual(count_stretches(rectangle=ALL, figures=1), 1)

    def test_wrong(self):
        for function in (stretches, count_stretches):
            self.fails_in_order(function, [3, (0, 0, 1, 1)], [WRONG_FIGURES, WRONG_RECTANGLES])


class NextCodeTest(Case):

    def test_each_code(self):
        for figures in range(3):
            for rectangle in rectangles(figures):
                codes = naive.codes_in(figures, rectangle)
                for code in range(4 ** figures):
                    wanted = min([number for number in codes if number >= code], default=None)
                    self.assertEqual(next_code(figures, rectangle, code), wanted)

    def test_larger_squares(self):
        for figures, many in ((3, 200), (4, 60)):
            for rectangle in some_rectangles(figures, many, figures + 10):
                codes = naive.codes_in(figures, rectangle)
                for code in range(4 ** figures):
                    wanted = min([number for number in codes if number >= code], default=None)
                    self.assertEqual(next_code(figures, rectangle, code), wanted)

    def test_few_places_in_great_squares(self):
        generator = random.Random(13)
        for turn in range(400):
            figures = generator.choice([5, 6, 13, 20, 32, 40])
            rectangle = few_places(generator, figures, 12)
            codes = codes_of_few(figures, rectangle)
            asked = [0, 4 ** figures - 1, generator.randrange(4 ** figures)]
            asked += [code + step for code in generator.sample(codes, min(4, len(codes))) for step in (-1, 0, 1)]
            # Codes with the same first figures as one of the rectangle, and other last ones.
            for code in generator.sample(codes, min(4, len(codes))):
                last = 4 ** generator.randrange(figures + 1)
                asked += [code // last * last, code // last * last + last - 1,
                          code // last * last + generator.randrange(last)]
            for code in asked:
                if 0 <= code < 4 ** figures:
                    wanted = min([number for number in codes if number >= code], default=None)
                    self.gives(wanted, next_code, figures, rectangle, code)

    def test_far(self):
        self.gives(0, next_code, 40, ALL, 0)
        self.gives(4 ** 40 - 1, next_code, 40, ALL, 4 ** 40 - 1)
        self.gives(4 ** 40 - 1, next_code, 40, (LAST, LAST, LAST, LAST), 0)
        self.gives(None, next_code, 40, (0, 0, HALF, HALF - 1), 3 * 4 ** 39)
        self.gives(4 ** 39, next_code, 40, (0, 0, HALF, 0), 2 * 4 ** 38 + 5)
        self.gives(3 * 4 ** 39, next_code, 40, (HALF, HALF, None, None), 7)
        self.gives(None, next_code, 40, (LAST + 1, 0, None, None), 0)
        self.gives(0, next_code, 0, ALL, 0)

    def test_along_the_stretches(self):
        rectangle = (HALF - 9, HALF - 3, HALF + 20, HALF + 4)
        code = 0
        for first, last in stretches(40, rectangle):
            self.assertEqual(next_code(40, rectangle, code), first)
            self.assertEqual(next_code(40, rectangle, last), last)
            code = last + 1
        self.assertIsNone(next_code(40, rectangle, code))

    def test_by_name(self):
        self.assertEqual(next_code(code=2, rectangle=(0, 0, 3, 0), figures=2), 4)

    def test_wrong(self):
        for figures in (0, 3, 40):
            self.fails_in_order(next_code, [figures, (0, 0, 1, 1), 0], [
                WRONG_FIGURES, WRONG_RECTANGLES, wrong_numbers("code", 0, 4 ** figures - 1)])
        self.fails_at_number("code", next_code, 3, (8, 8, 9, 9), 64)


class JumpedTest(Case):

    def test_few(self):
        self.gives(([], []), jumped, 0, [], ALL)
        self.gives(([(0, 0)], [(0, 0)]), jumped, 0, ((0, 0),), ALL)
        self.gives(([], []), jumped, 2, [(0, 0), (3, 3)], (4, 4, 5, 5))
        self.gives(([], [(3, 3)]), jumped, 2, [(0, 0), (3, 3)], (1, 1, 2, 2))
        self.gives(([], []), jumped, 2, [(0, 0)], (1, 1, 2, 2))

    def test_behind_a_point_that_is_found_comes_the_next_code(self):
        # The place (1, 0) is visited, though the least code of the rectangle behind (0, 0) is that of (0, 1).
        self.gives(([(0, 0), (0, 1)], [(0, 0), (1, 0), (0, 1), (1, 1)]),
                   jumped, 1, [(0, 0), (1, 0), (0, 1), (1, 1)], (0, 0, 0, 1))

    def test_against_the_words(self):
        generator = random.Random(3)
        for figures in range(4):
            places = naive.all_places(figures)
            for rectangle in some_rectangles(figures, 300 if figures > 1 else 25, figures + 20):
                points = generator.sample(places, generator.randrange(len(places) + 1))
                self.gives(naive.jumped(figures, points, rectangle), jumped, figures, points, rectangle)
                self.gives(naive.jumped(figures, points, rectangle), jumped, figures, tuple(points), rectangle)

    def test_facts(self):
        generator = random.Random(4)
        for turn in range(40):
            points = sorted({(generator.randrange(64), generator.randrange(64)) for k in range(400)})
            x, x2 = sorted([generator.randrange(64), generator.randrange(64)])
            y, y2 = sorted([generator.randrange(64), generator.randrange(64)])
            found, visited = jumped(6, points, (x, y, x2, y2))
            inside = [point for point in points if naive.inside(point, (x, y, x2, y2))]
            self.assertEqual(found, sorted(inside, key=lambda point: naive.code(6, point)))
            self.assertLessEqual(len(visited) - len(found), count_stretches(6, (x, y, x2, y2)))

    def test_500_points(self):
        points = [(k * 10 ** 9 % 2 ** 40, k * 77777777777 % 2 ** 40) for k in range(500)]
        start = time.perf_counter()
        found, visited = jumped(40, points, (10 ** 10, 10 ** 6, None, 10 ** 12))
        everything = jumped(40, points, ALL)
        line = jumped(40, [(k, k) for k in range(500)], (0, 0, 0, None))
        self.assertLess(time.perf_counter() - start, 1)
        by_code = sorted(points, key=lambda point: naive.code(40, point))
        self.assertEqual(found, [point for point in by_code if naive.inside(point, (10 ** 10, 10 ** 6, None, 10 ** 12))])
        self.assertEqual(everything, (by_code, by_code))
        self.assertEqual(line[0], [(0, 0)])

    def test_by_name(self):
        self.assertEqual(jumped(rectangle=ALL, points=[(1, 1)], figures=1), ([(1, 1)], [(1, 1)]))

    def test_wrong(self):
        self.fails_in_order(jumped, [3, [(0, 0), (7, 1)], (0, 0, 1, 1)], [
            WRONG_FIGURES, wrong_square_points(3), WRONG_RECTANGLES])


if __name__ == "__main__":
    unittest.main()
