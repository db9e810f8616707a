"""Tests of the texts [14.4], [14.5]."""

import random
import time
import unittest

import naive
import naive_middles
import naive_texts
from asking import Case
from planesplits import errors
from planesplits.live import Index
from planesplits.middles import middle
from planesplits.quarters import built
from planesplits.texts import journal_text, middle_text, quarter_text, read_journal, read_middle, read_quarter
from samples import (FAR, NOTHING_WANTED, TREE, WRONG_MIDDLES, WRONG_TREES, line, long_chain, side_chain)

SIGNS = "()- 0123456789\n\tx+,.A~!"
NO_STRINGS = [value for value in NOTHING_WANTED if not isinstance(value, str)] + [None, 0, [], (), ["-"], ("-",), b"-"]
QUARTERS = "(5 5 (-1 2 - - - -) (7 -20 - - - -) - (9 10 (8 8 - - - -) - - -))"
SIDES = "(5 5 (-1 2 (4 0 - -) -) (9 -10 - (80 8 - -)))"
MANY_FIGURES = "9" * 5000


def changed_texts(text):
    """Return texts with a sign more, less or another one at each place, and such that end early."""
    rows = []
    for at in range(len(text) + 1):
        rows.append(text[:at])
        rows.append(text[:at] + text[at + 1:])
        for sign in SIGNS:
            rows.append(text[:at] + sign + text[at:])
            rows.append(text[:at] + sign + text[at + 1:])
    return rows


class TreeTextTest(Case):

    def test_few(self):
        self.gives("-", quarter_text, None)
        self.gives("-", middle_text, None)
        self.gives("(0 -5 - - - -)", quarter_text, built([(0, -5)]))
        self.gives("(0 -5 - -)", middle_text, middle([(0, -5)]))
        self.gives(None, read_quarter, "-")
        self.gives(None, read_middle, "-")
        self.gives(((0, -5), (None, None, None, None)), read_quarter, "(0 -5 - - - -)")
        self.gives(((0, -5), None, None), read_middle, "(0 -5 - -)")
        self.gives(QUARTERS, quarter_text, read_quarter(QUARTERS))
        self.gives(SIDES, middle_text, read_middle(SIDES))

    def test_against_the_words(self):
        generator = random.Random(1)
        for turn in range(200):
            places = [(x * 10 ** (turn % 28), y) for x in range(-3, 4) for y in range(-9, 9, 3)]
            points = generator.sample(places, generator.randrange(12))
            tree, sides = naive.build(points), naive_middles.build(points)
            for point in [(-1, -100), (5, 99)][:turn % 3]:
                sides = naive_middles.put(sides, point)
            self.gives(naive_texts.text_of(tree), quarter_text, tree)
            self.gives(naive_texts.text_of(sides), middle_text, sides)
            self.gives(tree, read_quarter, quarter_text(tree))
            self.gives(sides, read_middle, middle_text(sides))

    def asks(self, text, many):
        """Ask for what a text tells, or where it is wrong."""
        function = read_quarter if many == 4 else read_middle
        tree, place = naive_texts.read(text, many)
        if place is not None:
            self.fails(errors.InvalidText, "place", place, function, text)
            return
        path = naive.fault(tree) if many == 4 else naive_middles.fault(tree)
        if path is not None:
            self.fails_at_tree(path, function, text)
        else:
            self.gives(tree, function, text)

    def test_each_change_of_a_sign(self):
        for text in changed_texts(QUARTERS) + changed_texts("-") + changed_texts("(0 -10 - - - -)"):
            self.asks(text, 4)
        for text in changed_texts(SIDES) + changed_texts("-") + changed_texts("(-10 0 - -)"):
            self.asks(text, 2)

    def test_the_other_kind(self):
        self.fails(errors.InvalidText, "place", 8, read_quarter, "(5 5 - -)")
        self.fails(errors.InvalidText, "place", 8, read_middle, "(5 5 - - - -)")

    def test_no_strings(self):
        for value in NO_STRINGS:
            for function in (read_quarter, read_middle, read_journal):
                self.fails(errors.InvalidText, "place", -1, function, value)

    def test_long_numbers(self):
        for function, rest in ((read_quarter, " - - - -)"), (read_middle, " - -)")):
            for number in (MANY_FIGURES, "-" + MANY_FIGURES, str(10 ** 30 + 1), "-" + str(10 ** 30 + 1), "1" + "0" * 39,
                           "1" + "0" * 40, "-1" + "0" * 39):
                self.fails_at_tree((), function, "(" + number + " 0" + rest)
                self.fails_at_tree((), function, "(0 " + number + rest)
                self.fails(errors.InvalidText, "place", len(number) + 1, function, "(" + number)
                self.fails(errors.InvalidText, "place", len(number) + 2, function, "(" + number + " ")
                self.fails(errors.InvalidText, "place", len(number) + 1, function, "(" + number + "x")
                self.fails(errors.InvalidText, "place", len(number) + 2, function, "(" + number + " x 0")
            self.fails(errors.InvalidText, "place", 2, function, "(0" + MANY_FIGURES)
            self.fails(errors.InvalidText, "place", 2, function, "(-0" + MANY_FIGURES)
            told = function("(" + str(FAR) + " -" + str(FAR) + rest)
            self.assertEqual(told[0], (FAR, -FAR))
        # The text comes ahead of the tree.
        self.fails(errors.InvalidText, "place", len(MANY_FIGURES) + 7, read_middle, "(" + MANY_FIGURES + " 0 - -]")

    def test_deep(self):
        start = time.perf_counter()
        for part in range(4):
            tree = long_chain(part, 500)
            self.assertEqual(quarter_text(read_quarter(quarter_text(tree))), quarter_text(tree))
            self.assertEqual(quarter_text(tree).count("("), 500)
        sides = side_chain(500)
        self.assertEqual(middle_text(read_middle(middle_text(sides))), middle_text(sides))
        self.assertTrue(middle_text(sides).startswith("(0 0 - (1 1 - (2 2 - "))
        self.fails_at_tree((1,) * 500, read_middle, "".join([f"({k} {k} - " for k in range(501)]) + "-" + ")" * 501)
        self.assertLess(time.perf_counter() - start, 2)

    def test_much_deeper(self):
        start = time.perf_counter()
        many = 20000
        self.fails(errors.InvalidText, "place", 5 * many, read_quarter, "(0 0 " * many)
        self.fails(errors.InvalidText, "place", 5 * many, read_middle, "(0 0 " * many + "x")
        self.fails_at_tree((0,), read_quarter, "(0 0 " * many + "-" + " - - -)" * many)
        self.fails(errors.InvalidText, "place", 12 * many + 1, read_quarter,
                   "(0 0 " * many + "-" + " - - -)" * many + ")")
        self.fails_at_tree((0,) * 500, read_middle,
                           "".join([f"({-k} {-k} " for k in range(many)]) + "-" + " -)" * many)
        self.assertLess(time.perf_counter() - start, 3)

    def test_by_name(self):
        self.assertEqual(quarter_text(tree=None), "-")
        self.assertEqual(middle_text(tree=None), "-")
        self.assertIsNone(read_quarter(text="-"))
        self.assertIsNone(read_middle(text="-"))

    def test_wrong(self):
        self.fails_in_order(quarter_text, [TREE], [WRONG_TREES])
        self.fails_in_order(middle_text, [None], [WRONG_MIDDLES])
        self.assertEqual(quarter_text(built(line(3, -1, 2))), "(0 0 - - (-1 2 - - (-2 4 - - - -) -) -)")


def drawn_index(generator, many):
    index = Index(generator.randrange(4), generator.randrange(1, 501))
    side = 2 ** index.figures
    for turn in range(many):
        point, place = [(generator.randrange(side), generator.randrange(side)) for end in (0, 1)]
        there = index.points()
        if point not in there:
            index.put(point)
        elif place not in there and generator.random() < 0.5:
            index.move(point, place)
        elif generator.random() < 0.7:
            index.take(point)
        else:
            index.undo()
    return index


ROWS = ["square 3 1", "put 6 7", "put 0 2", "move 6 7 1 1", "take 0 2"]


def journal(rows):
    return "".join([row + "\n" for row in rows])


class JournalTest(Case):

    def fails_at_row(self, number, text):
        self.fails(errors.InvalidText, "place", number, read_journal, text)

    def test_few(self):
        self.gives("square 40 500\n", journal_text, Index(40, 500))
        index = Index(3, 1)
        index.put((6, 7))
        index.put((0, 2))
        index.move((6, 7), (1, 1))
        index.take((0, 2))
        self.gives(journal(ROWS), journal_text, index)
        told = read_journal(journal(ROWS))
        self.assertIsInstance(told, Index)
        self.assertTrue(told == index)
        self.assertEqual(told.deeds(), index.deeds())
        index.undo()
        self.gives(journal(ROWS[:4]), journal_text, index)
        self.assertTrue(read_journal("square 0 1\n") == Index(0, 1))

    def test_read_back(self):
        generator = random.Random(2)
        for turn in range(150):
            index = drawn_index(generator, generator.randrange(30))
            told = read_journal(journal_text(index))
            self.assertTrue(told == index)
            self.assertEqual((told.figures, told.cap, told.deeds()), (index.figures, index.cap, index.deeds()))
            self.assertEqual(journal_text(told), journal_text(index))
            while index.undo():
                told.undo()
                self.assertTrue(told == index)
            told.put((0, 0))
            self.assertEqual(index.points(), [])

    def test_long(self):
        index = Index(40, 1)
        for k in range(300):
            index.put((k, 2 ** 40 - 1 - k * k))
        for k in range(300):
            index.move((k, 2 ** 40 - 1 - k * k), (2 ** 39 + k, k))
        start = time.perf_counter()
        told = read_journal(journal_text(index))
        self.assertTrue(told == index)
        self.assertEqual(len(told.deeds()), 600)
        # A deep tree, put in point by point.
        told = read_journal("square 10 1\n" + "".join([f"put {k} {k}\n" for k in range(500)]))
        self.assertEqual(len(told.points()), 500)
        self.fails_at_row(501, "square 10 1\n" + "".join([f"put {k} {k}\n" for k in range(501)]))
        self.assertLess(time.perf_counter() - start, 3)

    def test_wrong_rows(self):
        self.fails_at_row(0, "")
        self.fails_at_row(0, "\n")
        self.fails_at_row(0, "square 3 1")
        self.fails_at_row(1, "square 3 1\n\n")
        self.fails_at_row(1, "square 3 1\nput 1 1")
        self.fails_at_row(1, "square 3 1\n ")
        wrong_first = ["square 3", "square", "square 3 1 1", "square  3 1", "square 3 1 ", " square 3 1", "square 41 1",
                       "square -1 1", "square 3 0", "square 3 501", "square 03 1", "square 3 01", "square 3 +1",
                       "square 3 -1", "square 3 x", "Square 3 1", "square\t3 1", "square 3,1", "put 1 1", "3 1",
                       "square 3 1.0", "square -0 1", "square 3 " + MANY_FIGURES, "square " + MANY_FIGURES + " 1"]
        for row in wrong_first:
            self.fails_at_row(0, journal([row] + ROWS[1:]))
            self.fails_at_row(0, journal([row, "put 1 1", "nothing"]))
            self.fails_at_row(0, row)
        wrong_deeds = ["", " ", "put", "put 1", "put 1 1 1", "put  1 1", "put 1 1 ", " put 1 1", "put 8 1", "put 1 8",
                       "put -1 1", "put 01 1", "put 1 00", "put 1 -0", "put 1 x", "put x 1", "Put 1 1", "put 1\t1",
                       "put 6 7", "put " + MANY_FIGURES + " 1", "put 1 " + MANY_FIGURES, "put 1 -" + MANY_FIGURES,
                       "take 1 1", "take 6", "take 6 7 6", "take", "take 8 8", "take 06 7", "move 6 7", "move 6 7 1",
                       "move 6 7 1 1 1", "move 6 7 6 7", "move 1 1 2 2", "move 6 7 0 8", "move 8 7 0 0", "move",
                       "move 6 7 0 02", "undo", "square 3 1", "square", "6 7", "put (1, 1)", "put 1 1;", "put\n", "put 1 1 -",
                       "put -- 1", "put - 1", "put 1- 1", "put +1 1", "put 1_0 1"]
        for row in wrong_deeds:
            self.fails_at_row(2, journal(ROWS[:2] + [row]))
            self.fails_at_row(2, journal(ROWS[:2] + [row] + ROWS[2:]))
            self.fails_at_row(2, journal(ROWS[:2] + [row, "nothing"]))

    def test_each_change_of_a_sign(self):
        right = 0
        for text in changed_texts(journal(ROWS)):
            try:
                told = journal_text(read_journal(text))
            except errors.InvalidText as error:
                # All rows before the wrong one are right, and with it they are not.
                rows = text.split("\n")
                self.assertTrue(0 <= error.place < len(rows))
                right_rows = journal(rows[:error.place])
                if error.place > 0:
                    self.assertEqual(journal_text(read_journal(right_rows)), right_rows)
                if error.place < len(rows) - 1:
                    self.fails_at_row(error.place, journal(rows[:error.place + 1]))
            else:
                self.assertEqual(told, text)
                right += 1
        self.assertGreater(right, 10)

    def test_by_name(self):
        self.assertEqual(journal_text(index=Index(3, 1)), "square 3 1\n")
        self.assertTrue(read_journal(text="square 3 1\n") == Index(3, 1))

    def test_no_index(self):
        for value in NOTHING_WANTED[:-1] + [None, 0, [], (), "square 3 1\n", Index]:
            self.fails(errors.Mismatch, "name", "index", journal_text, value)


if __name__ == "__main__":
    unittest.main()
