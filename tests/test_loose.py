"""Tests of the loose cells [7.1] to [7.4]."""

import random
import time
import unittest

import naive_loose as naive
import naive_squares
from asking import Case
from planesplits import errors
from planesplits.loose import (are_homes, cells_met, free_moves, home_of, homes, idle, least_met, loose_cell,
                               loose_tree, meeting, most_in_tree, most_met, reaching, searched)
from samples import (FAR, FAR_END, MANY_FIGURES, NO_RECTANGLES, NOTHING_WANTED, WRONG_FIGURES, WRONG_RECTANGLES,
                     drawn_rectangle, no_cells, wrong, wrong_numbers)

ALL = (None, None, None, None)
LAST = 2 ** 40 - 1
BOXES = [(0, 0, 1, 2), (5, 5, 5, 5), (0, 0, 7, 1)]


def no_boxes(figures):
    """Return what is no box of a square."""
    side = 2 ** figures
    return NO_RECTANGLES + [
        (side, 0, side, 0), (0, side, 0, side), (0, 0, side, 0), (0, 0, 0, side), (-1, 0, 0, 0), (0, -1, 0, 0),
        ALL, (None, 0, 0, 0), (0, None, 0, 0), (0, 0, None, 0), (0, 0, 0, None), (FAR_END, FAR_END, FAR_END, FAR_END),
    ]


# Each wrong list of boxes of a square with three figures, with its error and what this one tells.
TOO_MANY = [(0, 0, 0, 0)] * 501
WRONG_BOX_LISTS = (
    [(value, errors.Mismatch, "name", "boxes") for value in NOTHING_WANTED + [None, 0, MANY_FIGURES, TOO_MANY,
                                                                             tuple(TOO_MANY), [None] * 501]]
    + [((value,) if at % 2 else [(0, 0, 7, 7), value, None], errors.InvalidRectangle, "value", value)
       for at, value in enumerate(no_boxes(3))]
    + [((0, 0, 1, 1), errors.InvalidRectangle, "value", 0)])


def wrong_boxes(figures):
    return wrong(no_boxes(figures), errors.InvalidRectangle, "value")


def drawn_boxes(generator, figures):
    everywhere = naive.all_boxes(figures)
    return [generator.choice(everywhere) for turn in range(generator.randrange(8))]


class CellTest(Case):

    def test_each_box(self):
        for figures in range(4):
            for box in naive.all_boxes(figures):
                cell = naive.home(figures, box)
                self.assertEqual(home_of(figures, box), cell)
                x, y, x2, y2 = loose_cell(figures, cell)
                self.assertTrue(x <= box[0] and y <= box[1] and box[2] <= x2 and box[3] <= y2)

    def test_each_cell(self):
        for figures in range(5):
            for cell in naive_squares.all_cells(figures):
                self.gives(naive.loose(figures, cell), loose_cell, figures, cell)
                x, y, x2, y2 = loose_cell(figures, cell)
                for part in naive_squares.parts_of(cell) if cell[0] < figures else []:
                    low_x, low_y, high_x, high_y = loose_cell(figures, part)
                    self.assertTrue(x <= low_x and y <= low_y and high_x <= x2 and high_y <= y2)

    def test_free_moves(self):
        for figures in range(3):
            for box in naive.all_boxes(figures):
                self.gives(naive.free_moves(figures, box), free_moves, figures, box)
        generator = random.Random(1)
        for box in generator.sample(naive.all_boxes(3), 150):
            self.gives(naive.free_moves(3, box), free_moves, 3, box)

    def test_few(self):
        self.gives((0, 0, 0), home_of, 0, (0, 0, 0, 0))
        self.gives((0, 0, 1, 1), loose_cell, 0, (0, 0, 0))
        self.gives((0, 0, 0, 0), free_moves, 0, (0, 0, 0, 0))
        self.gives((40, LAST, LAST), home_of, 40, (LAST, LAST, LAST, LAST))
        self.gives((40, LAST - 1, 7), home_of, 40, (LAST - 1, 7, LAST, 8))
        self.gives((0, 0, 0), home_of, 40, (0, 0, LAST, 0))
        self.gives((1, 0, 1), home_of, 40, (0, LAST, 2 ** 39, LAST))
        self.gives((0, 0, 0), home_of, 40, (0, LAST, 2 ** 39 + 1, LAST))
        self.gives((-2 ** 39, -2 ** 39, 2 ** 40 + 2 ** 39 - 1, 2 ** 40 + 2 ** 39 - 1), loose_cell, 40, (0, 0, 0))
        self.gives((0, 0, 0, LAST), free_moves, 40, (0, 0, LAST, 0))
        # Both axes count with the size, also where the box is thin.
        self.gives((0, LAST - 2 ** 39 - 1, -(2 ** 39), 2 ** 39 - 1), free_moves, 40, (0, 2 ** 39, 2 ** 39 + 1, 2 ** 39))

    def test_by_name(self):
        self.assertEqual(home_of(box=(0, 0, 1, 2), figures=3), (2, 0, 0))
        self.assertEqual(loose_cell(square=(2, 0, 0), figures=3), (-1, -1, 2, 2))
        self.assertEqual(free_moves(box=(0, 0, 1, 2), figures=3), (0, 1, 0, 0))

    def test_wrong(self):
        for figures in (0, 3, 40):
            box = (0, 0, 0, 0)
            self.fails_in_order(home_of, [figures, box], [WRONG_FIGURES, wrong_boxes(figures)])
            self.fails_in_order(free_moves, [figures, box], [WRONG_FIGURES, wrong_boxes(figures)])
            self.fails_in_order(loose_cell, [figures, (0, 0, 0)], [
                WRONG_FIGURES, wrong(no_cells(figures), errors.Mismatch, "name", "square")])


class TreeTest(Case):

    def test_few(self):
        self.gives([], homes, 3, [])
        self.gives([], loose_tree, 3, ())
        self.gives([((0, 0, 0), (2,)), ((2, 0, 0), (0,)), ((3, 5, 5), (1,))], homes, 3, BOXES)
        self.gives([(0, 0, 0), (1, 0, 0), (1, 1, 1), (2, 0, 0), (2, 2, 2), (3, 5, 5)], loose_tree, 3, BOXES)
        self.gives([((3, 1, 1), (0, 1, 3)), ((3, 1, 2), (2,))], homes, 3,
                   ((1, 1, 1, 1), (1, 1, 2, 2), (1, 2, 1, 2), (1, 1, 1, 1)))
        self.gives([((0, 0, 0), tuple(range(500)))], homes, 0, [(0, 0, 0, 0)] * 500)

    def test_against_the_words(self):
        generator = random.Random(2)
        for turn in range(200):
            figures = generator.randrange(4)
            boxes = drawn_boxes(generator, figures)
            for value in (boxes, tuple(boxes)):
                self.gives(naive.homes(figures, boxes), homes, figures, value)
                self.gives(naive.tree(figures, boxes), loose_tree, figures, value)

    def test_500_boxes(self):
        boxes = [(k, LAST - k, k + 1, LAST - k) for k in range(500)]
        start = time.perf_counter()
        told = loose_tree(40, boxes)
        rows = homes(40, boxes)
        visited = searched(40, boxes, (3, None, 9, None))
        least = idle(40, boxes, (3, None, 9, None))
        self.assertLess(time.perf_counter() - start, 2)
        self.assertEqual(len(told), 40 - 9 + sum([-(-500 // 2 ** k) for k in range(10)]))
        self.assertEqual(rows, [((40, k, LAST - k), (k,)) for k in range(500)])
        # A cell without a side to spare reaches one place further, so that of the box from 2 to 3 is met, too.
        self.assertEqual([cell for cell in visited if cell[0] == 40], [(40, k, LAST - k) for k in range(9, 1, -1)])
        self.assertEqual(least, [cell for cell in visited if cell[0] < 40])

    def test_are_homes(self):
        rows = homes(3, BOXES)
        for value in (rows, tuple(rows), rows[::-1], [rows[1], rows[0], rows[2]]):
            self.gives(True, are_homes, 3, BOXES, value)
        self.gives(True, are_homes, 3, [], [])
        self.gives(True, are_homes, 3, (), ())
        others = NOTHING_WANTED + [
            None, 0, [], (), rows[:2], rows + rows[:1], [rows[0], rows[0], rows[1]], [list(row) for row in rows],
            [(list(cell), numbers) for cell, numbers in rows], [(cell, list(numbers)) for cell, numbers in rows],
            rows[:2] + [((3, 5, 5), (0,))], rows[:2] + [((3, 5, 4), (1,))], rows[:2] + [((3, 5, 5), (True,))],
            rows[:2] + [((3, 5, 5), ())], rows[:2] + [((3, 5, 5), (1, 1))], rows[:2] + [((3, 5, 5),)],
            rows[:2] + [((3, 5, 5), (1,), 0)], rows[:2] + [None], rows[:2] + [[]], rows[:2] + [{}],
            rows[:2] + [((3, 5, 5), 1)], rows[:2] + [((3, 5, 5), (None,))], rows[:2] + [((3, 5), (1,))],
            [((False, 0, 0), (2,))] + rows[1:], [((0, False, 0), (2,))] + rows[1:], [cell for cell, numbers in rows],
            {row: True for row in rows}, rows[:2] + [((3, 5, 5), (1j,))], rows[:2] + [((3, 5, 5), ([1],))],
        ]
        for value in others:
            self.gives(False, are_homes, 3, BOXES, value)
        self.assertIs(are_homes(thing=rows, boxes=BOXES, figures=3), True)
        self.gives(False, are_homes, 3, [(1, 1, 1, 1)], [((3, True, 1), (0,))])
        self.gives(False, are_homes, 3, [(1, 1, 1, 1)], [((3, 1, 1), (False,))])

    def test_are_homes_with_one_thing_changed(self):
        generator = random.Random(3)
        for turn in range(200):
            figures = generator.randrange(1, 4)
            boxes = drawn_boxes(generator, figures) + [(0, 0, 1, 1)]
            rows = naive.homes(figures, boxes)
            at = generator.randrange(len(rows))
            cell, numbers = rows[at]
            changed = generator.choice([
                (cell, numbers[1:]), (cell, numbers[::-1]), (cell, numbers + (99,)), (cell, numbers * 2),
                (generator.choice(naive_squares.all_cells(figures)), numbers), generator.choice(rows)])
            thing = rows[:at] + [changed] + rows[at + 1:]
            self.gives(naive.are_homes(figures, boxes, thing), are_homes, figures, boxes, thing)

    def test_most_in_tree(self):
        for figures in range(3):
            cells = naive_squares.all_cells(figures)
            ends = [cell for cell in cells if cell[0] == figures]
            for many in range(len(ends) + 3):
                # Boxes of a single place are spread over the levels as far as they go.
                wanted = sum([min(4 ** level, many) for level in range(figures + 1)])
                self.gives(wanted, most_in_tree, figures, many)
        self.gives(0, most_in_tree, 40, 0)
        self.gives(41, most_in_tree, 40, 1)
        self.gives((4 ** 41 - 1) // 3, most_in_tree, 40, 10 ** 30)
        self.gives((4 ** 41 - 1) // 3, most_in_tree, 40, 4 ** 40)
        self.gives((4 ** 41 - 1) // 3 - 1, most_in_tree, 40, 4 ** 40 - 1)
        self.assertEqual(most_in_tree(many=2, figures=1), 3)
        self.fails_in_order(most_in_tree, [3, 0], [WRONG_FIGURES, wrong_numbers("many", 0, 10 ** 30)])

    def test_most_in_tree_is_never_passed(self):
        generator = random.Random(4)
        for turn in range(200):
            figures = generator.randrange(4)
            boxes = drawn_boxes(generator, figures)
            self.assertLessEqual(len(loose_tree(figures, boxes)), most_in_tree(figures, len(boxes)))
        # Places whose cells are unlike as early as can be reach it.
        for many, places in ((1, [(0, 0)]), (2, [(0, 0), (4, 4)]), (4, [(0, 0), (4, 0), (0, 4), (4, 4)]),
                             (5, [(0, 0), (4, 0), (0, 4), (4, 4), (2, 0)])):
            self.assertEqual(len(loose_tree(3, [place + place for place in places])), most_in_tree(3, many))

    def test_by_name(self):
        self.assertEqual(homes(boxes=[(0, 0, 0, 0)], figures=0), [((0, 0, 0), (0,))])
        self.assertEqual(loose_tree(boxes=[(0, 0, 0, 0)], figures=0), [(0, 0, 0)])

    def test_wrong(self):
        self.fails_in_order(homes, [3, BOXES], [WRONG_FIGURES, WRONG_BOX_LISTS])
        self.fails_in_order(loose_tree, [3, BOXES], [WRONG_FIGURES, WRONG_BOX_LISTS])
        self.fails_in_order(are_homes, [3, BOXES, None], [WRONG_FIGURES, WRONG_BOX_LISTS, []])


class SearchTest(Case):

    def test_few(self):
        for function in (meeting, searched, idle):
            self.gives([], function, 3, [], ALL)
        self.gives([0, 1, 2], meeting, 3, BOXES, ALL)
        self.gives([(0, 0, 0)], searched, 3, BOXES, (-9, -9, -9, -9))
        self.gives([(0, 0, 0)], searched, 3, BOXES, (FAR_END, None, None, None))
        self.gives([(0, 0, 0)], idle, 3, BOXES, (FAR, FAR, FAR, FAR))
        self.gives([0], meeting, 0, [(0, 0, 0, 0)], (0, 0, 0, 0))
        self.gives([0, 1], meeting, 1, [(0, 0, 0, 0), (0, 0, 0, 0)], (None, 0, 0, None))

    def test_against_the_words(self):
        generator = random.Random(5)
        for turn in range(300):
            figures = generator.randrange(4)
            boxes = drawn_boxes(generator, figures)
            for other in range(4):
                rectangle = drawn_rectangle(generator, -3, 2 ** figures + 2)
                met = [k for k, box in enumerate(boxes) if naive.meet(box, rectangle)]
                for value in (boxes, tuple(boxes)):
                    self.gives(met, meeting, figures, value, rectangle)
                    self.gives(naive.searched(figures, boxes, rectangle), searched, figures, value, rectangle)
                    self.gives(naive.idle(figures, boxes, rectangle), idle, figures, value, rectangle)
                visited = searched(figures, boxes, rectangle)
                self.assertTrue(all(home_of(figures, boxes[k]) in visited for k in met))

    def test_by_name(self):
        self.assertEqual(meeting(rectangle=ALL, boxes=BOXES, figures=3), [0, 1, 2])
        self.assertEqual(searched(rectangle=(-9, -9, -9, -9), boxes=BOXES, figures=3), [(0, 0, 0)])
        self.assertEqual(idle(rectangle=(-9, -9, -9, -9), boxes=BOXES, figures=3), [(0, 0, 0)])

    def test_wrong(self):
        for function in (meeting, searched, idle):
            self.fails_in_order(function, [3, BOXES, ALL], [WRONG_FIGURES, WRONG_BOX_LISTS, WRONG_RECTANGLES])


class QuestionsTest(Case):

    def test_cells_met(self):
        generator = random.Random(6)
        for turn in range(400):
            figures = generator.randrange(5)
            level = generator.randrange(figures + 1)
            rectangle = drawn_rectangle(generator, -3, 2 ** figures + 2)
            self.gives(naive.cells_met(figures, level, rectangle), cells_met, figures, level, rectangle)
        self.gives(4 ** 40, cells_met, 40, 40, ALL)
        self.gives(4, cells_met, 40, 1, (2 ** 39, 2 ** 39, 2 ** 39, 2 ** 39))
        self.gives(0, cells_met, 40, 0, (2 ** 41, None, None, None))
        self.gives(1, cells_met, 40, 0, (-(2 ** 39), None, -(2 ** 39), None))
        self.gives(0, cells_met, 40, 0, (None, None, -(2 ** 39) - 1, None))

    def test_for_all_boxes(self):
        for figures in range(4):
            for level in range(figures + 1):
                counts = {}
                for box in naive.all_boxes(figures):
                    size = (box[2] - box[0], box[3] - box[1])
                    counts.setdefault(size, []).append(cells_met(figures, level, box))
                for (width, height), row in counts.items():
                    self.assertEqual(most_met(figures, level, width, height), max(row))
                    self.assertEqual(least_met(figures, level, width, height), min(row))
                    self.reaches(figures, level, width, height)

    def reaches(self, figures, level, width, height):
        box = reaching(figures, level, width, height)
        self.assertEqual((box[2] - box[0], box[3] - box[1]), (width, height))
        self.assertTrue(0 <= box[0] and box[2] < 2 ** figures and 0 <= box[1] and box[3] < 2 ** figures)
        self.assertEqual(cells_met(figures, level, box), most_met(figures, level, width, height))
        self.gives(box, reaching, figures, level, width, height)

    def test_wide_squares(self):
        for figures in (5, 6):
            side = 2 ** figures
            for level in range(figures + 1):
                for width in range(0, side, 3):
                    row = [cells_met(figures, level, (x, 0, x + width, 0)) for x in range(side - width)]
                    by_y = [cells_met(figures, level, (0, x, 0, x + width)) for x in range(side - width)]
                    one = [cells_met(figures, level, (x, 0, x, 0)) for x in range(side)]
                    self.assertEqual(row, by_y)
                    least = cells_met(figures, level, (0, 0, 0, 0))
                    self.assertEqual(most_met(figures, level, width, 0) * least, max(row) * max(one))
                    self.assertEqual(least_met(figures, level, width, 0) * least, min(row) * min(one))
                    self.reaches(figures, level, width, side - 1 - width)

    def test_greatest(self):
        self.gives(4 ** 40, most_met, 40, 40, LAST, LAST)
        self.gives(4 ** 40, least_met, 40, 40, LAST, LAST)
        self.gives(4, most_met, 40, 40, 0, 0)
        self.gives(1, least_met, 40, 40, 0, 0)
        self.gives(1, most_met, 40, 0, LAST, 5)
        self.gives(1, most_met, 0, 0, 0, 0)
        generator = random.Random(7)
        for turn in range(300):
            level = generator.randrange(41)
            width, height = [generator.randrange(2 ** generator.randrange(41)) for axis in (0, 1)]
            self.reaches(40, level, width, height)
            self.assertLessEqual(least_met(40, level, width, height), most_met(40, level, width, height))
            x, y = generator.randrange(LAST - width + 1), generator.randrange(LAST - height + 1)
            met = cells_met(40, level, (x, y, x + width, y + height))
            self.assertLessEqual(least_met(40, level, width, height), met)
            self.assertLessEqual(met, most_met(40, level, width, height))

    def test_by_name(self):
        self.assertEqual(cells_met(rectangle=ALL, level=1, figures=2), 4)
        self.assertEqual(most_met(height=1, width=0, level=2, figures=3), 6)
        self.assertEqual(least_met(height=1, width=0, level=2, figures=3), 2)
        self.assertEqual(reaching(height=0, width=0, level=0, figures=0), (0, 0, 0, 0))

    def test_wrong(self):
        for figures in (0, 3, 40):
            levels = wrong_numbers("level", 0, figures)
            self.fails_in_order(cells_met, [figures, 0, ALL], [WRONG_FIGURES, levels, WRONG_RECTANGLES])
            lengths = [wrong_numbers(name, 0, 2 ** figures - 1) for name in ("width", "height")]
            for function in (most_met, least_met, reaching):
                self.fails_in_order(function, [figures, 0, 0, 0], [WRONG_FIGURES, levels] + lengths)


if __name__ == "__main__":
    unittest.main()
