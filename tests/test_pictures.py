"""Tests of the black and white pictures [13.1] to [13.9]."""

import itertools
import random
import time
import unittest

import naive_pictures as naive
from asking import Case
from naive_squares import all_places, is_place
from planesplits import errors, tallies
from planesplits.pictures import (area, best_shift, both, box_cells, box_picture, cells_of, colour_at, count_pictures,
                                  edge, either, is_picture, mirrored, opposite, painted, read_rows, regions, rows_of,
                                  shifted, turned_left, without)
from samples import (FAR_END, MANY_FIGURES, NOTHING_WANTED, WRONG_FIGURES, WRONG_RECTANGLES, no_square_points,
                     wrong_numbers, wrong_pairs, wrong_places)

ALL = (None, None, None, None)
LAST = 2 ** 40 - 1
DEEP = (0, (0, 0, 1, (1, 0, 0, 1)), 1, 0)


def with_tuples(many):
    """Return a picture with so many tuples, which has 4 * many + 1 nodes."""
    if many == 0:
        return 0
    sizes = [(many - 1 + k) // 3 for k in range(3)]
    return (with_tuples(sizes[0]), with_tuples(sizes[1]), with_tuples(sizes[2]), 1)


LARGE = with_tuples(999)
# Tuples of the path of the first fault and a value, for three figures.
NO_PICTURES = [((), value) for value in NOTHING_WANTED] + [
    ((), None), ((), 2), ((), -1), ((), MANY_FIGURES), ((), []), ((), ()), ((), (0,)), ((), (0, 1)), ((), (0, 1, 0)),
    ((), (0, 0, 0, 0)), ((), (1, 1, 1, 1)), ((), (0, 0, 0, 0, 1)), ((), [0, 0, 0, 1]), ((), ((0, 1, 0, 1),)),
    ((0,), (True, 1, 1, 1)), ((0,), (False, 0, 0, 0)), ((3,), (0, 0, 0, False)), ((3,), (1, 1, 1, True)),
    ((1,), (0, True, 0, 0)), ((0,), (0j, 0, 0, 0)), ((2,), (1, 1, 1 + 0j, 1)), ((2,), (0, 1, 2, 3)),
    ((1,), (1, -1, 0, 0)),
    ((0,), ("0", 0, 0, 0)), ((3,), (0, 0, 0, None)), ((1,), (0, [0, 0, 0, 1], 0, 0)), ((0,), ((0, 0, 0, 0), 1, 1, 1)),
    ((2,), (0, (0, 1, 0, 0), (1, 1, 1, 1), None)), ((1,), (0, (), [], 0)), ((1, 3), (0, (0, 1, 0, 2), [], 0)),
    ((1, 3, 3), (0, (0, 0, 1, (1, 0, 0, (0, 0, 0, 1))), 1, 0)), ((1, 3, 0), (0, (0, 0, 1, ((), 0, 0, 1)), 1, 0)),
    ((1, 3), (0, (0, 0, 1, (1, 1, 1, 1)), 1, 0)), ((3, 0), (0, 0, 0, ([], 0, 0, 0))), ((0, 1, 3), (DEEP, 1, 5, 5)),
    ((2,), (DEEP[1], 1, 5, 5)),
]
WRONG_PICTURES = wrong_pairs(NO_PICTURES, errors.InvalidTree, "path")


def wrong_painted(figures):
    """Return what are no places of a square, at least two figures wide, for `painted`."""
    rows = []
    for index, value in no_square_points(figures):
        if index == -1:
            rows.append((value, errors.Mismatch, "name", "places"))
        else:
            # Here a place out of the square is not found behind the others.
            first = [at for at in range(len(value)) if value[at] in value[:at] or not is_place(figures, value[at])][0]
            rows.append((value, errors.InvalidPoints, "index", first))
    return rows


def drawn_places(generator, figures):
    """Return a set of places: some single ones, and all of some rectangles."""
    everywhere = all_places(figures)
    black = set(generator.sample(everywhere, generator.randrange(min(len(everywhere), 12) + 1)))
    for turn in range(generator.randrange(3)):
        x, x2 = sorted([generator.randrange(2 ** figures) for end in (0, 1)])
        y, y2 = sorted([generator.randrange(2 ** figures) for end in (0, 1)])
        black = black ^ naive.in_rectangle(figures, (x, y, x2, y2))
    return black


def drawn(many, seed, most=4):
    """Return tuples (figures, set of places, picture)."""
    generator = random.Random(seed)
    rows = []
    for turn in range(many):
        figures = generator.randrange(most + 1)
        black = drawn_places(generator, figures)
        rows.append((figures, black, naive.picture(figures, black)))
    return rows


def checked(figures):
    """Return the picture in which places are black and white in turn."""
    return naive.picture(figures, {(x, y) for x, y in all_places(figures) if (x + y) % 2 == 0})


class PaintedTest(Case):

    def test_few(self):
        self.gives(0, painted, 0, [])
        self.gives(0, painted, 40, ())
        self.gives(1, painted, 0, [(0, 0)])
        self.gives((0, 1, 0, 0), painted, 1, [(1, 0)])
        self.gives((0, 0, 1, 0), painted, 1, ((0, 1),))
        self.gives(1, painted, 1, [(0, 0), (1, 1), (0, 1), (1, 0)])
        self.gives((1, 0, 0, 0), painted, 2, [(0, 0), (1, 1), (0, 1), (1, 0)])
        one = 1
        for level in range(40):
            one = (0, 0, 0, one)
        self.gives(one, painted, 40, [(LAST, LAST)])

    def test_against_the_words(self):
        for figures, black, picture in drawn(300, 1):
            self.gives(picture, painted, figures, sorted(black))
            self.gives(picture, painted, figures, tuple(sorted(black, key=lambda place: (-place[1], place[0]))))
            for place in all_places(figures)[:40]:
                self.assertEqual(colour_at(figures, picture, place), 1 if place in black else 0)

    def test_too_large(self):
        # Each place has its own 37 cells, below the 1 + 4 + 9 cells of the first levels that are split.
        places = [(k % 5 * 2 ** 37, k // 5 * 2 ** 37) for k in range(25)]
        self.assertEqual(sum(cells_of(40, painted(40, places))), 4 * (25 * 37 + 1 + 4 + 9) + 1)
        # Two more places with 30 cells of their own, and a third one with a single one.
        places += [(2 ** 30, 0), (2 ** 37, 2 ** 30)]
        self.assertEqual(sum(cells_of(40, painted(40, places))), 3997)
        self.too_large(4000, painted, 40, places + [(2, 0)])
        start = time.perf_counter()
        for many in (31, 500):
            self.too_large(4000, painted, 40, [(k * (LAST // 500), k * 77777777777 % 2 ** 40) for k in range(many)])
        self.assertLess(time.perf_counter() - start, 1)
        self.fails(errors.InvalidPoints, "index", 499, painted, 40, [(k * 2 ** 30, 0) for k in range(499)] + [(0, 0)])

    def test_500_places(self):
        places = all_places(5)[:500]
        self.gives(naive.picture(5, set(places)), painted, 5, places)
        self.fails(errors.Mismatch, "name", "places", painted, 5, all_places(5)[:501])

    def test_by_name(self):
        self.assertEqual(painted(places=[(1, 0)], figures=1), (0, 1, 0, 0))

    def test_wrong(self):
        self.fails_in_order(painted, [3, [(0, 0), (7, 1)]], [WRONG_FIGURES, wrong_painted(3)])
        self.fails(errors.InvalidPoints, "index", 0, painted, 0, [(0, 1)])


class IsPictureTest(Case):

    def test_pictures(self):
        for figures in (0, 3, 40):
            self.gives(True, is_picture, figures, 0)
            self.gives(True, is_picture, figures, 1)
        self.gives(True, is_picture, 3, DEEP)
        self.gives(False, is_picture, 2, DEEP)
        self.gives(True, is_picture, 40, LARGE)
        self.gives(False, is_picture, 0, (0, 0, 0, 1))
        for path, value in NO_PICTURES:
            self.gives(False, is_picture, 3, value)
        self.assertIs(is_picture(thing=1, figures=0), True)
        self.fails_in_order(is_picture, [3, 0], [WRONG_FIGURES, []])

    def test_too_many_nodes(self):
        self.assertEqual(sum(cells_of(40, LARGE)), 3997)
        self.gives(False, is_picture, 40, with_tuples(1000))
        self.fails_at_tree((3,), opposite, 40, with_tuples(1000))
        self.fails_at_tree(naive.fault(40, with_tuples(1200)), opposite, 40, with_tuples(1200))
        # One part that stands many times over counts each time.
        part = with_tuples(250)
        self.fails_at_tree((3,) + naive.fault(40, (part, part, part, part))[1:], area, 40, (part, part, part, part))

    def test_with_one_thing_changed(self):
        generator = random.Random(2)
        for figures, black, picture in drawn(400, 3):
            others = [0, 1, True, None, (0, 0, 0, 0), (1, 1, 1, 1), (0, 1, 1, 0), (0, 1, 1), [0, 1, 1, 0], "", DEEP]
            value = self.changed(picture, generator, generator.choice(others))
            fault = naive.fault(figures, value)
            self.gives(fault is None, is_picture, figures, value)
            if fault is not None:
                self.fails_at_tree(fault, cells_of, figures, value)

    def changed(self, picture, generator, other):
        if not isinstance(picture, tuple) or generator.random() < 0.2:
            return other
        at = generator.randrange(4)
        return picture[:at] + (self.changed(picture[at], generator, other),) + picture[at + 1:]

    def test_colour_at(self):
        self.gives(1, colour_at, 0, 1, (0, 0))
        self.gives(0, colour_at, 40, 0, (LAST, LAST))
        self.gives(1, colour_at, 40, painted(40, [(5, LAST)]), (5, LAST))
        self.gives(0, colour_at, 40, painted(40, [(5, LAST)]), (4, LAST))
        self.assertEqual(colour_at(place=(1, 0), picture=(0, 1, 0, 0), figures=1), 1)
        self.fails_in_order(colour_at, [3, DEEP, (0, 0)], [WRONG_FIGURES, WRONG_PICTURES, wrong_places("place", 3)])


class TwoTest(Case):

    def test_against_the_words(self):
        rows = drawn(300, 4)
        for figures, black, picture in rows:
            for figures2, black2, picture2 in rows[:40]:
                if figures2 == figures:
                    for function, wanted in ((both, black & black2), (either, black | black2),
                                             (without, black - black2)):
                        self.assertEqual(function(figures, picture, picture2), naive.picture(figures, wanted))
            self.gives(naive.picture(figures, set(all_places(figures)) - black), opposite, figures, picture)

    def test_few(self):
        self.gives(DEEP, both, 3, DEEP, DEEP)
        self.gives(DEEP, either, 3, DEEP, 0)
        self.gives(1, either, 3, DEEP, opposite(3, DEEP))
        self.gives(0, without, 3, DEEP, DEEP)
        self.gives(opposite(3, DEEP), without, 3, 1, DEEP)
        self.gives(0, opposite, 40, 1)
        self.gives((1, (1, 1, 0, (0, 1, 1, 0)), 0, 1), opposite, 3, DEEP)

    def test_facts(self):
        rows = drawn(200, 5)
        for figures, black, one in rows:
            for figures2, black2, other in rows[:20]:
                if figures2 == figures:
                    joined = area(figures, one) + area(figures, other) - area(figures, both(figures, one, other))
                    self.assertEqual(area(figures, either(figures, one, other)), joined)

    def test_too_large(self):
        board = checked(5)
        low, high = (board, board, 1, 1), (1, 1, board, board)
        white_low, white_high = (board, board, 0, 0), (0, 0, board, board)
        self.assertEqual(sum(cells_of(6, low)), 1 + 2 + 2 * 1365)
        self.too_large(4000, both, 6, low, high)
        self.too_large(4000, either, 6, white_low, white_high)
        self.too_large(4000, without, 6, low, white_high)
        for many in (498, 499, 500):
            one, other = (with_tuples(many), 0, 0, 1), (0, with_tuples(499), 0, 1)
            if many < 500:
                self.gives((with_tuples(many), with_tuples(499), 0, 1), either, 40, one, other)
            else:
                self.too_large(4000, either, 40, one, other)
        self.gives(LARGE, both, 40, LARGE, 1)
        self.assertEqual(sum(cells_of(40, opposite(40, LARGE))), 3997)

    def test_by_name(self):
        self.assertEqual(both(other=1, one=DEEP, figures=3), DEEP)
        self.assertEqual(either(other=0, one=DEEP, figures=3), DEEP)
        self.assertEqual(without(other=DEEP, one=0, figures=3), 0)
        self.assertEqual(opposite(picture=0, figures=3), 1)

    def test_wrong(self):
        for function in (both, either, without):
            self.fails_in_order(function, [3, DEEP, 0], [WRONG_FIGURES, WRONG_PICTURES, WRONG_PICTURES])
        self.fails_in_order(opposite, [3, DEEP], [WRONG_FIGURES, WRONG_PICTURES])


class MovedTest(Case):

    def test_turned_and_mirrored(self):
        for figures, black, picture in drawn(200, 6):
            last = 2 ** figures - 1
            turned = {(last - y, x) for x, y in black}
            self.gives(naive.picture(figures, turned), turned_left, figures, picture)
            self.gives(naive.picture(figures, {(last - x, y) for x, y in black}), mirrored, figures, picture)
            for other in (turned_left(figures, picture), mirrored(figures, picture)):
                self.assertEqual(edge(figures, picture), edge(figures, other))
                self.assertEqual(regions(figures, picture), regions(figures, other))
        self.gives((0, 1, 1, 0), turned_left, 1, (1, 0, 0, 1))
        self.gives((0, 0, 0, 1), turned_left, 40, (0, 1, 0, 0))
        self.gives((1, 0, 0, 0), mirrored, 40, (0, 1, 0, 0))
        self.assertEqual(sum(cells_of(40, turned_left(40, LARGE))), 3997)
        self.assertEqual(mirrored(40, mirrored(40, LARGE)), LARGE)

    def test_shifted(self):
        generator = random.Random(7)
        for figures, black, picture in drawn(200, 8):
            side = 2 ** figures
            for turn in range(8):
                dx, dy = generator.randrange(-side, side + 1), generator.randrange(-side, side + 1)
                if turn < 4:
                    dx, dy = dx // 3, dy // 3
                moved = naive.shifted(figures, black, dx, dy)
                self.gives(naive.picture(figures, moved), shifted, figures, picture, dx, dy)
                if len(moved) == len(black):
                    told = shifted(figures, picture, dx, dy)
                    self.assertEqual(edge(figures, picture), edge(figures, told))
                    self.assertEqual(regions(figures, picture), regions(figures, told))

    def test_each_small_shift(self):
        for figures in range(3):
            side = 2 ** figures
            for black in [set(), {(0, 0)}, {(side - 1, 0), (0, 0)}, set(all_places(figures))]:
                for dx in range(-side, side + 1):
                    for dy in range(-side, side + 1):
                        wanted = naive.picture(figures, naive.shifted(figures, black, dx, dy))
                        self.gives(wanted, shifted, figures, naive.picture(figures, black), dx, dy)

    def test_shifted_far(self):
        self.gives(DEEP, shifted, 40, DEEP, 0, 0)
        self.gives(0, shifted, 40, 1, 2 ** 40, 0)
        self.gives(0, shifted, 40, 1, 0, -(2 ** 40))
        self.gives((0, 1, 0, 1), shifted, 40, 1, 2 ** 39, 0)
        self.gives((0, 0, 0, 1), shifted, 40, (1, 0, 0, 0), 2 ** 39, 2 ** 39)
        self.gives(painted(40, [(LAST, 0)]), shifted, 40, 1, LAST, -LAST)
        places = [(k * 2 ** 35, k * 3 * 2 ** 33) for k in range(20)]
        moved = painted(40, [(x + 12345, y + 99999) for x, y in places])
        self.gives(moved, shifted, 40, painted(40, places), 12345, 99999)
        start = time.perf_counter()
        for dx, dy in ((1, 0), (0, -1), (1, 1), (-7, 2 ** 38 + 1), (2 ** 39 - 1, 1 - 2 ** 39)):
            self.too_large(4000, shifted, 40, (1, 0, 0, (1, 0, 0, 1)), dx, dy)
        # What comes in along an edge is white, so a full picture has as many nodes as the edge is long.
        self.too_large(4000, shifted, 40, 1, 1, 0)
        self.assertLess(time.perf_counter() - start, 2)

    def test_the_same_picture_of_a_greater_square(self):
        generator = random.Random(15)
        for figures, black, picture in drawn(100, 16):
            wide = 2 ** (40 - figures)
            side = 2 ** figures
            for turn in range(3):
                dx, dy = generator.randrange(-side, side + 1), generator.randrange(-side, side + 1)
                self.gives(shifted(figures, picture, dx, dy), shifted, 40, picture, dx * wide, dy * wide)
            self.gives(area(figures, picture) * wide * wide, area, 40, picture)
            self.gives(edge(figures, picture) * wide, edge, 40, picture)
            self.gives(regions(figures, picture), regions, 40, picture)

    def test_shifted_at_the_limit(self):
        # In a row of 2 ** k places the last ones lie in 2 ** (k + 1) - 2 cells that are split.
        self.assertEqual(sum(cells_of(9, shifted(9, 1, 1, 0))), 4 * 511 + 1)
        self.too_large(4000, shifted, 10, 1, 1, 0)

    def test_by_name(self):
        self.assertEqual(turned_left(picture=(1, 0, 0, 1), figures=1), (0, 1, 1, 0))
        self.assertEqual(mirrored(picture=(1, 0, 0, 0), figures=1), (0, 1, 0, 0))
        self.assertEqual(shifted(dy=1, dx=0, picture=(1, 0, 0, 0), figures=1), (0, 0, 1, 0))

    def test_wrong(self):
        for function in (turned_left, mirrored):
            self.fails_in_order(function, [3, DEEP], [WRONG_FIGURES, WRONG_PICTURES])
        self.fails_in_order(shifted, [3, DEEP, 1, -1], [
            WRONG_FIGURES, WRONG_PICTURES, wrong_numbers("dx", -8, 8), wrong_numbers("dy", -8, 8)])
        self.fails_at_number("dx", shifted, 0, 1, 2, 0)
        self.fails_at_number("dy", shifted, 40, 0, 2 ** 40, 2 ** 40 + 1)


class MeasuresTest(Case):

    def test_against_the_words(self):
        for figures, black, picture in drawn(400, 9):
            self.gives(len(black), area, figures, picture)
            self.gives(naive.edge(black), edge, figures, picture)
            self.gives(naive.regions(black), regions, figures, picture)
            self.gives(naive.counts(picture), cells_of, figures, picture)
            told = cells_of(figures, picture)
            self.assertEqual(3 * told[2], told[0] + told[1] - 1)

    def test_each_small_picture(self):
        for black in itertools.chain.from_iterable(itertools.combinations(all_places(2), many) for many in (2, 3, 14)):
            black = set(black)
            picture = naive.picture(2, black)
            self.assertEqual((area(2, picture), edge(2, picture), regions(2, picture)),
                             (len(black), naive.edge(black), naive.regions(black)))

    def test_few(self):
        for figures in (0, 3, 40):
            self.gives(0, area, figures, 0)
            self.gives(4 ** figures, area, figures, 1)
            self.gives(0, edge, figures, 0)
            self.gives(4 * 2 ** figures, edge, figures, 1)
            self.gives(0, regions, figures, 0)
            self.gives(1, regions, figures, 1)
            self.gives((1, 0, 0), cells_of, figures, 1)
            self.gives((0, 1, 0), cells_of, figures, 0)
        # Corners do not join.
        self.gives(2, regions, 40, (1, 0, 0, 1))
        self.gives(8 * 2 ** 39, edge, 40, (1, 0, 0, 1))
        self.gives(1, regions, 40, (1, 1, 0, 1))
        self.gives(512, regions, 5, checked(5))

    def test_large(self):
        start = time.perf_counter()
        for function in (area, edge, regions, cells_of):
            function(40, LARGE)
        self.assertLess(time.perf_counter() - start, 1)
        comb = naive.picture(5, {(x, y) for x, y in all_places(5) if x % 2 == 0 or y == 0})
        self.assertEqual(regions(5, comb), 1)
        self.assertEqual(regions(5, opposite(5, comb)), 16)

    def test_by_name(self):
        for function, wanted in ((area, 1), (edge, 4), (regions, 1), (cells_of, (1, 0, 0))):
            self.assertEqual(function(picture=1, figures=0), wanted)

    def test_wrong(self):
        for function in (area, edge, regions, cells_of):
            self.fails_in_order(function, [3, DEEP], [WRONG_FIGURES, WRONG_PICTURES])


class BoxTest(Case):

    def test_against_the_words(self):
        for figures in range(3):
            numbers = [None] + list(range(-1, 2 ** figures + 1))
            for x, y, x2, y2 in itertools.product(numbers, repeat=4):
                if (x is None or x2 is None or x <= x2) and (y is None or y2 is None or y <= y2):
                    rectangle = (x, y, x2, y2)
                    wanted = naive.picture(figures, naive.in_rectangle(figures, rectangle))
                    self.assertEqual(box_picture(figures, rectangle), wanted)
                    self.assertEqual(box_cells(figures, rectangle), naive.counts(wanted))

    def test_larger_squares(self):
        generator = random.Random(10)
        for turn in range(200):
            figures = generator.choice([3, 4, 5])
            x, x2 = sorted([generator.randrange(-2, 2 ** figures + 2) for end in (0, 1)])
            y, y2 = sorted([generator.randrange(-2, 2 ** figures + 2) for end in (0, 1)])
            wanted = naive.picture(figures, naive.in_rectangle(figures, (x, y, x2, y2)))
            self.gives(wanted, box_picture, figures, (x, y, x2, y2))
            self.gives(naive.counts(wanted), box_cells, figures, (x, y, x2, y2))

    def test_greatest(self):
        self.gives((1099511627776, 2199023255550, 1099511627775), box_cells, 40, (None, 5, None, 5))
        self.gives((1, 0, 0), box_cells, 40, ALL)
        self.gives(1, box_picture, 40, (-FAR_END, -FAR_END, FAR_END, FAR_END))
        self.gives((0, 1, 0), box_cells, 40, (FAR_END, None, None, None))
        self.gives(0, box_picture, 40, (None, None, -1, None))
        self.gives((1, 120, 40), box_cells, 40, (LAST, 0, LAST, 0))
        self.gives(painted(40, [(LAST, 0)]), box_picture, 40, (LAST, 0, LAST, 0))
        self.gives((2, 2, 1), box_cells, 40, (2 ** 39, None, None, None))
        self.gives((0, 1, 0, 1), box_picture, 40, (2 ** 39, None, None, None))
        told = box_cells(40, (1, 1, LAST - 1, LAST - 1))
        self.assertEqual(told[0] + told[1], 3 * told[2] + 1)
        start = time.perf_counter()
        self.too_large(4000, box_picture, 40, (1, 1, LAST - 1, LAST - 1))
        self.too_large(4000, box_picture, 40, (None, 5, None, 5))
        for turn in range(200):
            box_cells(40, (1, 1, LAST - 1, LAST - 1))
        self.assertLess(time.perf_counter() - start, 1)

    def test_at_the_limit(self):
        rows = [(figures, box_cells(figures, (1, None, x2, None))) for figures in (9, 10) for x2 in (300, 511, 600)]
        for figures, told in rows:
            self.assertEqual(3 * told[2] + 1, told[0] + told[1])
        for wide in range(900, 1100):
            rectangle = (0, 0, wide, 0)
            if sum(box_cells(40, rectangle)) > 4000:
                self.too_large(4000, box_picture, 40, rectangle)
            else:
                self.assertEqual(cells_of(40, box_picture(40, rectangle)), box_cells(40, rectangle))

    def test_by_name(self):
        self.assertEqual(box_cells(rectangle=ALL, figures=3), (1, 0, 0))
        self.assertEqual(box_picture(rectangle=ALL, figures=3), 1)

    def test_wrong(self):
        for function in (box_cells, box_picture):
            self.fails_in_order(function, [3, ALL], [WRONG_FIGURES, WRONG_RECTANGLES])


class BestShiftTest(Case):

    def test_few(self):
        for figures in range(5):
            side = 2 ** figures
            self.gives((1, -side, -side), best_shift, figures, 0)
            self.gives((1, 0, 0), best_shift, figures, 1)
        self.gives((5, -1, 0), best_shift, 1, (0, 1, 0, 0))
        self.gives((5, 0, 0), best_shift, 4, (1, 0, 0, 0))
        self.gives((5, -4, -4), best_shift, 4, shifted(4, (1, 0, 0, 0), 4, 4))
        self.gives((17, -15, -15), best_shift, 4, painted(4, [(15, 15)]))

    def test_each_small_picture(self):
        for figures in (0, 1):
            places = all_places(figures)
            for many in range(len(places) + 1):
                for black in itertools.combinations(places, many):
                    picture = naive.picture(figures, set(black))
                    self.gives(naive.best_shift(figures, set(black)), best_shift, figures, picture)

    def test_against_the_words(self):
        for figures, black, picture in drawn(150, 11, 3):
            self.gives(naive.best_shift(figures, black), best_shift, figures, picture)
        generator = random.Random(12)
        for turn in range(15):
            x, y = generator.randrange(9), generator.randrange(9)
            black = {(x + a, y + b) for a, b in generator.sample(all_places(3), 20)}
            black = {(a, b) for a, b in black if a < 16 and b < 16}
            self.gives(naive.best_shift(4, black), best_shift, 4, naive.picture(4, black))

    def test_by_name(self):
        self.assertEqual(best_shift(picture=1, figures=0), (1, 0, 0))

    def test_wrong(self):
        self.fails_in_order(best_shift, [3, DEEP], [wrong_numbers("figures", 0, 4), WRONG_PICTURES])


class RowsTest(Case):

    def test_against_the_words(self):
        for figures, black, picture in drawn(200, 13, 5):
            rows = naive.rows(figures, black)
            self.gives(rows, rows_of, figures, picture)
            self.gives((figures, picture), read_rows, rows)
            self.gives((figures, picture), read_rows, tuple(rows))

    def test_few(self):
        self.gives(["."], rows_of, 0, 0)
        self.gives(["#"], rows_of, 0, 1)
        self.gives([".#", ".."], rows_of, 1, (0, 1, 0, 0))
        self.gives(["#" * 64] * 64, rows_of, 6, 1)
        self.gives((6, 0), read_rows, ["." * 64] * 64)
        self.gives((0, 1), read_rows, ("#",))
        self.too_large(4000, read_rows, ["#." * 32, ".#" * 32] * 32)
        half = ["#." * 16 + "." * 32, ".#" * 16 + "#" * 32] * 32
        figures, picture = read_rows(half[:32] + ["#" * 64] * 32)
        self.assertEqual(rows_of(6, picture), half[:32] + ["#" * 64] * 32)

    def test_by_name(self):
        self.assertEqual(rows_of(picture=1, figures=0), ["#"])
        self.assertEqual(read_rows(rows=["#"]), (0, 1))

    def test_wrong(self):
        self.fails_in_order(rows_of, [3, DEEP], [wrong_numbers("figures", 0, 6), WRONG_PICTURES])
        for value in NOTHING_WANTED + [None, 0, [], (), ["#"] * 3, ["."] * 5, ["." * 128] * 128, ["."] * 65, {"#": 1},
                                       [None] * 3]:
            self.fails(errors.Mismatch, "name", "rows", read_rows, value)
        for index, rows in [(0, [""]), (0, ["##"]), (0, ["#", "."]), (1, ["##", "#"]), (1, ["##", "###"]),
                            (0, [None, ".."]), (1, ["..", 5]), (1, ("..", b"..")), (1, ["..", [".", "."]]), (0, ["X"]),
                            (0, ["#\n", ".."]), (1, ["..", ". "]), (0, ["01", ".."]), (0, [[], ""]), (0, ["#,", ".."]),
                            (3, ["####"] * 3 + ["#-##"]), (2, ["####"] * 2 + ["#" * 64] * 2), (0, [""] * 64),
                            (63, ["." * 64] * 63 + ["." * 63]), (1, ["..", (".", ".")]), (0, ["%s", ".."])]:
            self.fails(errors.InvalidText, "place", index, read_rows, rows)


class CountTest(Case):

    def test_each_picture(self):
        for figures in (0, 1, 2):
            counts = {}
            places = all_places(figures)
            for mask in range(2 ** len(places)):
                split = self.split_by_mask(figures, mask)
                counts[split] = counts.get(split, 0) + 1
            for split in range(10):
                self.gives(counts.get(split, 0), count_pictures, figures, split)

    def split_by_mask(self, figures, mask):
        """Return how many cells have both colours, for a number with the colours of all places, cell by cell."""
        if figures == 0 or mask in (0, 2 ** 4 ** figures - 1):
            return 0
        many = 4 ** (figures - 1)
        return 1 + sum([self.split_by_mask(figures - 1, mask >> part * many & 2 ** many - 1) for part in range(4)])

    def test_against_the_words(self):
        for figures, counts in enumerate(naive.counts_of_pictures(40, 60)):
            for split, number in enumerate(counts):
                self.gives(number, count_pictures, figures, split)

    def test_both_ways_against_the_words(self):
        rows = naive.counts_of_pictures(40, 60)
        for figures, counts in list(enumerate(rows))[1:]:
            for split in range(1, min(2 * figures + 1, 60) + 1):
                row, bits = tallies.packed_row(figures, split)
                self.assertEqual([row >> bits * k & (1 << bits) - 1 for k in range(split + 1)], counts[:split + 1])
                more = tallies.count_deeper(figures, split) if split > figures else 0
                self.assertEqual(tallies.count_free(split) - more, counts[split])

    def test_few(self):
        self.gives(2, count_pictures, 40, 0)
        self.gives(2, count_pictures, 0, 0)
        self.gives(0, count_pictures, 0, 1)
        self.gives(14, count_pictures, 1, 1)
        self.gives(0, count_pictures, 1, 2)
        self.gives(14, count_pictures, 40, 1)
        self.gives(448, count_pictures, 2, 2)
        self.assertEqual(sum([count_pictures(3, split) for split in range(22)]), 2 ** 64)

    def test_quick(self):
        times = []
        for turn in range(20):
            start = time.perf_counter()
            count_pictures(40, 60)
            times.append(time.perf_counter() - start)
        self.assertLess(min(times), 0.003)

    def test_by_name(self):
        self.assertEqual(count_pictures(split=1, figures=1), 14)

    def test_wrong(self):
        self.fails_in_order(count_pictures, [3, 2], [WRONG_FIGURES, wrong_numbers("split", 0, 60)])


class FactsTest(Case):

    def test_nodes_of_four(self):
        generator = random.Random(14)
        for turn in range(100):
            parts = [naive.picture(2, drawn_places(generator, 2)) for part in range(4)]
            if parts not in ([0] * 4, [1] * 4):
                most = max([sum(cells_of(2, part)) for part in parts])
                self.assertLessEqual(most + 1, sum(cells_of(3, tuple(parts))))


if __name__ == "__main__":
    unittest.main()
