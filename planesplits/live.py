"""Indexes: points of a square, kept side by side in a quarter tree, a middle tree and a cell tree.

The trees are made anew along one way only, so those of earlier states stay as they were, and are kept for `undo`.
"""

from planesplits.cells import cells_over, rows_of_leaves
from planesplits.checks import MOST_POINTS, check_number, check_point, check_rectangle
from planesplits.errors import AlreadyThere, InvalidPoint, NotThere, TooLarge
from planesplits.growth import grown
from planesplits.hunts import sides_nearest, sides_ranged
from planesplits.points import square_distance
from planesplits.quarters import put_below, reading, way_down
from planesplits.searches import parts_nearest, parts_ranged
from planesplits.sides import side_points, way_by_sides, with_point, without_top
from planesplits.squares import box_of, check_cap, check_figures, four_cells, is_place, meets_box


def check_square_point(value, figures):
    """Raise InvalidPoint for what is no point of a square."""
    if not is_place(value, figures):
        raise InvalidPoint(value)


def put_in_both(trees, point):
    """Return a quarter tree and a middle tree with a point more."""
    above, path, node = way_down(trees[0], point)
    above2, node2 = way_by_sides(trees[1], point)
    return put_below(above, path, grown([point])), with_point(above2, point)


def taken_from_both(trees, point):
    """Return a quarter tree and a middle tree without a point."""
    above, path, node = way_down(trees[0], point)
    above2, node2 = way_by_sides(trees[1], point)
    return put_below(above, path, grown(reading(node)[1:])), without_top(above2, node2)


def count_cells_visited(figures, split, rectangle):
    """Return how many cells are visited for a rectangle, if these are the cells that are split."""
    box = box_of(figures, rectangle)
    if box is None:
        return 1
    # A cell that the rectangle meets lies in cells that it meets, too, so each of them is visited.
    met = [cell for cell in split if meets_box(figures, cell, box)]
    return 1 + len([part for cell in met for part in four_cells(cell) if meets_box(figures, part, box)])


class Index:
    """Points of a square in three trees at once, with the deeds that brought them there."""

    def __init__(self, figures, cap):
        check_figures(figures)
        check_cap(cap)
        self.figures = figures
        self.cap = cap
        # The points that are there, as keys; all deeds that stand; the trees ahead of each deed, and those of now.
        self.there = {}
        self.done = []
        self.states = [(None, None)]

    def __eq__(self, other):
        # Trees may be too deep to be compared; but with the same reading order they are the same.
        return (isinstance(other, Index) and self.figures == other.figures and self.cap == other.cap
                and reading(self.quarter()) == reading(other.quarter())
                and side_points(self.middle()) == side_points(other.middle()))

    def put(self, point):
        """Put a point in."""
        check_square_point(point, self.figures)
        if point in self.there:
            raise AlreadyThere(point)
        if len(self.there) == MOST_POINTS:
            raise TooLarge(MOST_POINTS)
        self.there[point] = True
        self.done.append(("put", point))
        self.states.append(put_in_both(self.states[-1], point))

    def take(self, point):
        """Take a point out."""
        check_square_point(point, self.figures)
        if point not in self.there:
            raise NotThere(point)
        del self.there[point]
        self.done.append(("take", point))
        self.states.append(taken_from_both(self.states[-1], point))

    def move(self, point, place):
        """Take a point out and put another one in, as one deed."""
        check_square_point(point, self.figures)
        check_square_point(place, self.figures)
        if point not in self.there:
            raise NotThere(point)
        if place in self.there:
            raise AlreadyThere(place)
        del self.there[point]
        self.there[place] = True
        self.done.append(("move", point, place))
        self.states.append(put_in_both(taken_from_both(self.states[-1], point), place))

    def points(self):
        """Return the ascending list of the points."""
        return sorted(self.there)

    def quarter(self):
        """Return the quarter tree."""
        return self.states[-1][0]

    def middle(self):
        """Return the middle tree."""
        return self.states[-1][1]

    def leaves(self):
        """Return the list of tuples (leaf, list of its points ascending) of the cell tree in reading order."""
        return rows_of_leaves(self.figures, self.cap, list(self.there))

    def deeds(self):
        """Return the list of the deeds that stand."""
        return list(self.done)

    def undo(self):
        """Take back the last deed; return whether there is one."""
        if not self.done:
            return False
        self.done.pop()
        self.states.pop()
        self.there = {point: True for point in side_points(self.middle())}
        return True

    def at(self, number):
        """Return a new index on which only the first deeds are done, so many."""
        check_number(number, 0, len(self.done), "number")
        index = Index(self.figures, self.cap)
        index.done = self.done[:number]
        index.states = self.states[:number + 1]
        index.there = {point: True for point in side_points(index.middle())}
        return index

    def search(self, rectangle):
        """Return the ascending list of the points in a rectangle, and the numbers of visits in the three trees."""
        check_rectangle(rectangle)
        found, visited = parts_ranged(self.quarter(), rectangle)
        found2, visited2 = sides_ranged(self.middle(), rectangle)
        split = cells_over(self.figures, self.cap, list(self.there))
        return sorted(found), (len(visited), len(visited2), count_cells_visited(self.figures, split, rectangle))

    def near(self, point):
        """Return the distance of a point and the nearest point, and the numbers of visits in two trees."""
        check_point(point)
        best, visited = parts_nearest(self.quarter(), point)
        best2, visited2 = sides_nearest(self.middle(), point, None, {})
        return None if best is None else square_distance(point, best), (len(visited), len(visited2))
