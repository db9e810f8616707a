"""Tests of indexes filled with points in a line [14.1] to [14.3], against trees built point by point."""

import random
import time
import unittest

from asking import Case
from planesplits import errors, history
from planesplits.cells import leaves, split_cells
from planesplits.live import Index
from planesplits.middles import middle_nearest, middle_ranged, put, taken
from planesplits.points import distance, is_inside
from planesplits.quarters import inserted, removed
from planesplits.searches import nearest, ranged
from planesplits.texts import journal_text, middle_text, quarter_text, read_journal
from samples import from_both_ends, no_places

FIGURES = 9
LAST = 2 ** FIGURES - 1
ALL = (None, None, None, None)


def lines(many):
    """Return a dict of points in lines by names."""
    rising = [(k, k) for k in range(many)]
    return {"rising": rising, "falling": [(k, LAST - k) for k in range(many)],
            "equal x": [(7, k) for k in range(many)], "equal y": [(k, 7) for k in range(many)],
            "rising, backwards": rising[::-1], "rising, from both ends": from_both_ends(rising),
            "rising, drawn": random.Random(many).sample(rising, many)}


def behind(state, deed):
    """Return the points, the quarter tree and the middle tree behind a deed, for those ahead of it."""
    points, quarter, middle = state
    word, *places = deed
    if word != "put":
        points = [point for point in points if point != places[0]]
        quarter, middle = removed(quarter, places[0]), taken(middle, places[0])
    if word != "take":
        points = points + [places[-1]]
        quarter, middle = inserted(quarter, places[-1]), put(middle, places[-1])
    return points, quarter, middle


def states_of(deeds):
    """Return the list of the states ahead of each deed, and behind all."""
    states = [([], None, None)]
    for deed in deeds:
        states.append(behind(states[-1], deed))
    return states


def filled(points, cap=1, is_asked=False):
    """Return an index with points; its trees are asked for, or not."""
    index = Index(FIGURES, cap)
    for point in points:
        index.put(point)
    if is_asked:
        index.quarter()
    return index


def does(index, deed):
    return {"put": index.put, "take": index.take, "move": index.move}[deed[0]](*deed[1:])


def cells_visited(cap, points, rectangle):
    """Return how many cells are visited for a rectangle."""
    def meets(level, i, j):
        side = 2 ** (FIGURES - level)
        x, y, x2, y2 = rectangle
        return ((x is None or x < (i + 1) * side) and (x2 is None or x2 >= i * side)
                and (y is None or y < (j + 1) * side) and (y2 is None or y2 >= j * side))
    visited = {(0, 0, 0): True}
    # In reading order each cell comes behind those that it lies in.
    for level, i, j in split_cells(FIGURES, cap, points):
        if (level, i, j) in visited:
            parts = [(level + 1, 2 * i + number % 2, 2 * j + number // 2) for number in range(4)]
            visited.update({part: True for part in parts if meets(*part)})
    return len(visited)


class LineCase(Case):

    def same_trees(self, index, state):
        """Ask for the points and trees of an index. The texts of deep trees can be compared, but not the trees."""
        points, quarter, middle = state
        self.assertEqual(index.points(), sorted(points))
        self.assertTrue(quarter_text(index.quarter()) == quarter_text(quarter))
        self.assertTrue(middle_text(index.middle()) == middle_text(middle))

    def same(self, index, state, deeds):
        """Ask for all that an index tells."""
        points, quarter, middle = state
        self.same_trees(index, state)
        self.assertEqual((index.figures, index.deeds()), (FIGURES, deeds))
        self.assertEqual(index.leaves(), leaves(FIGURES, index.cap, points))
        for rectangle in (ALL, (40, None, 200, 9), (100, 100, None, None), (None, 7, 20, 7), (LAST + 1, 3, None, 3)):
            found, visited = ranged(quarter, rectangle)
            visits = (len(visited), len(middle_ranged(middle, rectangle)[1]),
                      cells_visited(index.cap, points, rectangle))
            self.assertEqual(sorted(found), sorted([point for point in points if is_inside(point, rectangle)]))
            self.assertEqual(index.search(rectangle), (sorted(found), visits))
        for point in ((0, 0), (150, 151), (410, -410), (LAST, LAST)):
            best, visited = nearest(quarter, point)
            far = None if best is None else distance(best, point)
            self.assertEqual(index.near(point), (far, (len(visited), len(middle_nearest(middle, point)[1]))))


class FilledTest(LineCase):

    def test_filled(self):
        for name, points in lines(300).items():
            deeds = [("put", point) for point in points]
            states = states_of(deeds)
            for cap in (1, 500):
                self.same(filled(points, cap), states[-1], deeds)
            # Whatever is asked first, it is told of the same trees.
            found, visited = ranged(states[-1][1], (3, 3, 99, 300))
            self.assertEqual(filled(points).search((3, 3, 99, 300))[0], sorted(found), name)
            self.assertEqual(filled(points).near((3, 4))[1][1], len(middle_nearest(states[-1][2], (3, 4))[1]), name)
            self.assertTrue(middle_text(filled(points).middle()) == middle_text(states[-1][2]), name)

    def test_few(self):
        for many in (0, 1, 2, 29, 30, 31, 32, 33, 34, 40, 70):
            for points in lines(many).values():
                deeds = [("put", point) for point in points]
                self.same(filled(points), states_of(deeds)[-1], deeds)

    def test_asked_between(self):
        generator = random.Random(1)
        for name, points in lines(240).items():
            states = states_of([("put", point) for point in points])
            index = Index(FIGURES, 2)
            for number, point in enumerate(points):
                index.put(point)
                if generator.random() < 0.06:
                    self.same_trees(index, states[number + 1])
            self.same(index, states[-1], [("put", point) for point in points])

    def test_asked_behind_each_put(self):
        points = [(k, k) for k in range(120)]
        states = states_of([("put", point) for point in points])
        index = Index(FIGURES, 1)
        for number, point in enumerate(points):
            index.put(point)
            self.same_trees(index, states[number + 1])

    def test_other_points_between(self):
        # Some points of a line, some that lie elsewhere; the trees are deep, but not everywhere.
        generator = random.Random(2)
        others = generator.sample([(x, y) for x in range(300, 512) for y in range(200)], 150)
        for points in lines(250).values():
            mixed = points[:100] + [point for pair in zip(points[100:], others) for point in pair]
            deeds = [("put", point) for point in mixed if mixed.count(point) == 1]
            index = filled([point for word, point in deeds])
            self.same(index, states_of(deeds)[-1], deeds)

    def test_both_ways_are_used(self):
        points = [(k, k) for k in range(300)]
        index = filled(points)
        self.assertIsNone(index.history.pairs[-1])
        index.quarter()
        self.assertEqual((index.history.told, index.history.run.first), (300, 0))
        index = filled(points[:10])
        self.assertNotIn(None, index.history.pairs)
        index = filled([(k * 193 % 512, k * 317 % 512) for k in range(500)])
        self.assertNotIn(None, index.history.pairs)
        # Between the ways: few enough puts, each behind others that are asked for.
        index = filled(points[:34])
        self.assertIsNone(index.history.pairs[-1])
        index.quarter()
        self.assertIsNone(index.history.run)
        self.assertNotIn(None, index.history.pairs)
        self.assertTrue(34 * 2 > history.FAR_DOWN > 2)


class DeedsTest(LineCase):

    def refuses(self, index, points):
        """Ask for the errors of deeds that are refused."""
        there, other = points[len(points) // 2], points[0]
        for place in no_places(FIGURES)[::9]:
            self.fails_at_point(place, index.put, place)
            self.fails_at_point(place, index.take, place)
            self.fails_at_point(place, index.move, there, place)
        self.fails(errors.AlreadyThere, "point", there, index.put, there)
        self.fails(errors.AlreadyThere, "point", other, index.move, there, other)
        self.fails(errors.NotThere, "point", (LAST, 3), index.take, (LAST, 3))
        self.fails(errors.NotThere, "point", (LAST, 3), index.move, (LAST, 3), there)

    def test_refused(self):
        for points in lines(200).values():
            deeds = [("put", point) for point in points]
            state = states_of(deeds)[-1]
            index = filled(points)
            self.refuses(index, points)
            self.same(index, state, deeds)
            self.refuses(index, points)
            self.same(index, state, deeds)

    def test_too_many(self):
        points = [(k, LAST - k) for k in range(500)]
        index = filled(points)
        self.fails(errors.TooLarge, "limit", 500, index.put, (500, 11))
        self.fails(errors.AlreadyThere, "point", (4, LAST - 4), index.put, (4, LAST - 4))
        self.assertTrue(quarter_text(index.quarter()) == quarter_text(filled(points).quarter()))
        self.fails(errors.TooLarge, "limit", 500, index.put, (500, 11))
        self.assertEqual(index.deeds(), [("put", point) for point in points])
        self.assertEqual(index.points(), points)

    def test_undone(self):
        for points in lines(200).values():
            deeds = [("put", point) for point in points]
            states = states_of(deeds)
            for is_asked in (False, True):
                index = filled(points, 1, is_asked)
                for number in range(199, -1, -1):
                    self.assertIs(index.undo(), True)
                    if number in (199, 198, 150, 33, 32, 31, 1, 0):
                        self.same(index, states[number], deeds[:number])
                self.assertIs(index.undo(), False)

    def test_undone_and_done_again(self):
        for name, points in lines(200).items():
            for is_asked in (False, True):
                index = filled(points, 1, is_asked)
                for turn in range(60):
                    index.undo()
                # Once the same again, then others.
                others = points[140:150] + [(210 + k, 211 + k) for k in range(30)]
                deeds = [("put", point) for point in points[:140] + others]
                for deed in deeds[140:]:
                    does(index, deed)
                states = states_of(deeds)
                self.same(index, states[-1], deeds)
                for turn in range(25):
                    index.undo()
                self.same(index, states[155], deeds[:155])

    def test_takes_and_moves(self):
        for points in lines(150).values():
            deeds = [("put", point) for point in points]
            for number in (149, 0, 75, 76, 3):
                deeds.append(("take", points[number]))
            for number in (148, 1, 80, 40):
                deeds.append(("move", points[number], (points[number][0] + 200, points[number][1] // 3)))
            deeds += [("put", points[number]) for number in (75, 0, 149, 76)]
            states = states_of(deeds)
            index = Index(FIGURES, 1)
            for deed in deeds:
                does(index, deed)
            self.same(index, states[-1], deeds)
            index = Index(FIGURES, 1)
            for number, deed in enumerate(deeds):
                does(index, deed)
                if number > 145:
                    self.same_trees(index, states[number + 1])
            for number in range(len(deeds) - 1, 140, -1):
                index.undo()
                self.same_trees(index, states[number])

    def does_some(self, index, states, deeds, places, generator):
        """Do puts along a line, undo deeds, or do a take or a move."""
        points = states[-1][0]
        free = [place for place in places if place not in points]
        word = generator.choice(["put", "put", "undo", "take", "move"])
        if word == "undo":
            for turn in range(generator.choice([1, 2, 20, 70])):
                self.assertIs(index.undo(), bool(deeds))
                if deeds:
                    deeds.pop()
                    states.pop()
            return
        done = []
        if word == "put":
            done = [("put", point) for point in free[:generator.choice([1, 2, 3, 30, 90])]]
        elif points and word == "take":
            done = [("take", generator.choice(points))]
        elif points and free:
            done = [("move", generator.choice(points), generator.choice(free))]
        for deed in done:
            self.assertIsNone(does(index, deed))
            deeds.append(deed)
            states.append(behind(states[-1], deed))

    def test_drawn_deeds(self):
        generator = random.Random(3)
        for name, places in lines(220).items():
            index = Index(FIGURES, 3)
            states, deeds = [([], None, None)], []
            for turn in range(40):
                self.does_some(index, states, deeds, places, generator)
                if generator.random() < 0.5:
                    self.same_trees(index, states[-1])
                if generator.random() < 0.2:
                    number = generator.randrange(len(deeds) + 1)
                    other = index.at(number)
                    self.same_trees(other, states[number])
                    self.assertEqual(other.deeds(), deeds[:number])
            self.same(index, states[-1], deeds)


class AtTest(LineCase):

    def test_at(self):
        for points in lines(200).values():
            deeds = [("put", point) for point in points]
            states = states_of(deeds)
            for is_asked in (False, True):
                index = filled(points, 1, is_asked)
                for number in (0, 1, 30, 31, 32, 33, 34, 60, 150, 199, 200):
                    self.same(index.at(number), states[number], deeds[:number])
                self.same(index, states[-1], deeds)

    def test_later_deeds_stay_apart(self):
        for points in lines(160).values():
            for is_asked in (False, True):
                index = filled(points, 1, is_asked)
                other = index.at(100)
                more = [(x + 300, y) for x, y in points[100:150]]
                deeds = [("put", point) for point in points[:100] + more]
                for point in more:
                    other.put(point)
                index.take(points[5])
                index.undo()
                self.fails(errors.NotThere, "point", (LAST, LAST), other.take, (LAST, LAST))
                self.same(other, states_of(deeds)[-1], deeds)
                self.same(index, states_of([("put", point) for point in points])[-1],
                          [("put", point) for point in points])
                third = other.at(120)
                third.undo()
                third.move(points[0], (LAST, 0))
                deeds = deeds[:119] + [("move", points[0], (LAST, 0))]
                self.same(third, states_of(deeds)[-1], deeds)

    def test_equal(self):
        for points in lines(150).values():
            index = filled(points)
            self.assertTrue(index == filled(points))
            self.assertTrue(index == index.at(150) and index.at(150) == index)
            self.assertFalse(index == index.at(149) or index == filled(points, 2) or index == filled(points[::-1]))
            # Comparing makes no trees that are kept.
            self.assertEqual(index.history.pairs.count(None), filled(points).history.pairs.count(None))
            other = index.at(140)
            for number in range(140, 150):
                other.put(points[number])
            other.move(points[9], (LAST, LAST))
            other.undo()
            self.assertTrue(index == other)
            self.assertTrue(read_journal(journal_text(index)) == index)

    def test_equal_trees_of_other_deeds(self):
        points = [(k, k) for k in range(100)]
        one, other = filled(points), filled(points + [(300, 300)])
        self.assertFalse(one == other)
        other.take((300, 300))
        self.assertNotEqual(one.deeds(), other.deeds())
        self.assertTrue(one == other and other == one)


class TimeTest(unittest.TestCase):

    def quickest(self, call):
        times = []
        for turn in range(10):
            start = time.perf_counter()
            call()
            times.append(time.perf_counter() - start)
        return min(times)

    def test_puts(self):
        for name, points in lines(400).items():
            self.assertLess(self.quickest(lambda: filled(points)), 0.025, name)
            self.assertLess(self.quickest(lambda: filled(points).near((410, 410))), 0.04, name)

    def test_puts_and_undone_deeds(self):
        points = [(k, k) for k in range(400)]

        def done_and_undone():
            index = filled(points)
            while index.undo():
                pass
        self.assertLess(self.quickest(done_and_undone), 0.03)


if __name__ == "__main__":
    unittest.main()
