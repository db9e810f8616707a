"""Indexes: points of a square, kept side by side in a quarter tree, a middle tree and a cell tree."""

from planesplits.cells import cells_over, rows_of_leaves
from planesplits.checks import MOST_POINTS, check_number, check_point, check_rectangle
from planesplits.errors import AlreadyThere, InvalidPoint, NotThere, TooLarge
from planesplits.history import History
from planesplits.hunts import sides_nearest, sides_ranged
from planesplits.points import square_distance
from planesplits.quarters import reading
from planesplits.searches import parts_nearest, parts_ranged
from planesplits.sides import side_points
from planesplits.squares import box_of, check_cap, check_figures, four_cells, is_place, meets_box


def check_square_point(value, figures):
    """Raise InvalidPoint for what is no point of a square."""
    if not is_place(value, figures):
        raise InvalidPoint(value)


def count_cells_visited(figures, split, rectangle):
    """Return how many cells are visited for a rectangle, if these are the cells that are split."""
    box = box_of(figures, rectangle)
    if box is None:
        return 1
    # A cell that the rectangle meets lies in cells that it meets, too, so each of them is visited.
    met = [cell for cell in split if meets_box(figures, cell, box)]
    return 1 + len([part for cell in met for part in four_cells(cell) if meets_box(figures, part, box)])


class Index:
    """Points of a square in three trees at once, with the deeds that brought them there."""

    def __init__(self, figures, cap):
        check_figures(figures)
        check_cap(cap)
        self.figures = figures
        self.cap = cap
        # The points that are there, as keys.
        self.there = {}
        self.history = History()

    def __eq__(self, other):
        if not isinstance(other, Index) or self.figures != other.figures or self.cap != other.cap:
            return False
        if self.history.done == other.history.done:
            return True
        quarter, middle = self.history.pair_told()
        other_quarter, other_middle = other.history.pair_told()
        # Trees may be too deep to be compared; but with the same reading order they are the same.
        return reading(quarter) == reading(other_quarter) and side_points(middle) == side_points(other_middle)

    def put(self, point):
        """Put a point in."""
        check_square_point(point, self.figures)
        if point in self.there:
            raise AlreadyThere(point)
        if len(self.there) == MOST_POINTS:
            raise TooLarge(MOST_POINTS)
        self.there[point] = True
        self.history.put(point)

    def take(self, point):
        """Take a point out."""
        check_square_point(point, self.figures)
        if point not in self.there:
            raise NotThere(point)
        del self.there[point]
        self.history.take(point)

    def move(self, point, place):
        """Take a point out and put another one in, as one deed."""
        check_square_point(point, self.figures)
        check_square_point(place, self.figures)
        if point not in self.there:
            raise NotThere(point)
        if place in self.there:
            raise AlreadyThere(place)
        del self.there[point]
        self.there[place] = True
        self.history.move(point, place)

    def points(self):
        """Return the ascending list of the points."""
        return sorted(self.there)

    def quarter(self):
        """Return the quarter tree."""
        return self.history.pair_now()[0]

    def middle(self):
        """Return the middle tree."""
        return self.history.pair_now()[1]

    def leaves(self):
        """Return the list of tuples (leaf, list of its points ascending) of the cell tree in reading order."""
        return rows_of_leaves(self.figures, self.cap, list(self.there))

    def deeds(self):
        """Return the list of the deeds that stand."""
        return list(self.history.done)

    def undo(self):
        """Take back the last deed; return whether there is one."""
        if not self.history.done:
            return False
        word, *points = self.history.undone()
        # The last one of its points came by a put or a move, the first one went by a take or a move.
        if word != "take":
            del self.there[points[-1]]
        if word != "put":
            self.there[points[0]] = True
        return True

    def at(self, number):
        """Return a new index on which only the first deeds are done, so many."""
        check_number(number, 0, len(self.history.done), "number")
        index = Index(self.figures, self.cap)
        index.history = self.history.begun(number)
        index.there = {point: True for point in index.history.spots_now()}
        return index

    def search(self, rectangle):
        """Return the ascending list of the points in a rectangle, and the numbers of visits in the three trees."""
        check_rectangle(rectangle)
        found, visited = parts_ranged(self.quarter(), rectangle)
        found2, visited2 = sides_ranged(self.middle(), rectangle)
        split = cells_over(self.figures, self.cap, list(self.there))
        return sorted(found), (len(visited), len(visited2), count_cells_visited(self.figures, split, rectangle))

    def near(self, point):
        """Return the distance of a point and the nearest point, and the numbers of visits in two trees."""
        check_point(point)
        best, visited = parts_nearest(self.quarter(), point)
        best2, visited2 = sides_nearest(self.middle(), point, None, {})
        return None if best is None else square_distance(point, best), (len(visited), len(visited2))
