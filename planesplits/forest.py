"""Forests: points in middle trees whose numbers of points are powers of two.

The methods and functions of the interface check their arguments.
"""

from planesplits.checks import MOST_POINTS, check_number, check_point, check_points, check_rectangle
from planesplits.errors import AlreadyThere, NotThere, TooLarge
from planesplits.hunts import sides_counted, sides_nearest, sides_ranged
from planesplits.points import lies_in
from planesplits.sides import grown_sides, side_points
from planesplits.worst import MOST_ASKED, STATES, check_state, rows_for

MOST_COSTED = 10 ** 30


def trees_by_powers(points):
    """Return the list of what stands at the places of a forest: trees of the first points, the largest tree first."""
    many = len(points)
    rows = [None] * many.bit_length()
    start = 0
    for place in reversed(range(many.bit_length())):
        if many >> place & 1 == 1:
            rows[place] = grown_sides(points[start:start + (1 << place)], 0)
            start += 1 << place
    return rows


def cost_so_far(many):
    """Return the sum of the greatest powers of two that divide the numbers from 1 on, so many."""
    # Just these many of them have the power with a place, and no greater one.
    return sum([(many >> place) - (many >> place + 1) << place for place in range(many.bit_length())])


class Forest:
    """Points in middle trees: at place i there is None, or a tree of 2 ** i points."""

    def __init__(self, points=()):
        check_points(points)
        self.rows = trees_by_powers(points)
        # All points of the trees, and those of them that are gone, as keys.
        self.known = {point: True for point in points}
        self.lost = {}
        self.cost = cost_so_far(len(points))

    def __eq__(self, other):
        return isinstance(other, Forest) and self.rows == other.rows and self.lost == other.lost

    def put(self, point):
        """Put a point in; return how many points are built to a tree for it."""
        check_point(point)
        if point in self.lost:
            del self.lost[point]
            return 0
        if point in self.known:
            raise AlreadyThere(point)
        if len(self.known) == MOST_POINTS:
            raise TooLarge(MOST_POINTS)
        self.known[point] = True
        moving = [point]
        place = 0
        while place < len(self.rows) and self.rows[place] is not None:
            moving.extend(side_points(self.rows[place]))
            self.rows[place] = None
            place += 1
        tree = grown_sides(moving, 0)
        if place == len(self.rows):
            self.rows.append(tree)
        else:
            self.rows[place] = tree
        self.cost += len(moving)
        return len(moving)

    def take(self, point):
        """Take a point away; return how many points are built to trees, if the forest is made anew for it."""
        check_point(point)
        if point not in self.known or point in self.lost:
            raise NotThere(point)
        self.lost[point] = True
        if 2 * len(self.lost) <= len(self.known):
            return 0
        left = self.points()
        self.rows = trees_by_powers(left)
        self.known = {entry: True for entry in left}
        self.lost = {}
        self.cost += len(left)
        return len(left)

    def trees(self):
        """Return the list of what is at the places from 0 on, up to the last tree."""
        return list(self.rows)

    def points(self):
        """Return the ascending list of the points that are not gone."""
        return sorted([point for point in self.known if point not in self.lost])

    def gone(self):
        """Return the ascending list of the points that are gone."""
        return sorted(self.lost)

    def moved(self):
        """Return the sum of all numbers that put and take have returned so far."""
        return self.cost

    def ranged(self, rectangle):
        """Return the list of the points in a rectangle, and that of all that are visited, in all trees."""
        check_rectangle(rectangle)
        found = []
        visited = []
        for tree in self.rows:
            tree_found, tree_visited = sides_ranged(tree, rectangle)
            found.extend([point for point in tree_found if point not in self.lost])
            visited.extend(tree_visited)
        return found, visited

    def counted(self, rectangle):
        """Return how many points lie in a rectangle, and the list of those that are visited, in all trees."""
        check_rectangle(rectangle)
        number = -len([point for point in self.lost if lies_in(point, rectangle)])
        visited = []
        for tree in self.rows:
            tree_number, tree_visited = sides_counted(tree, rectangle)
            number += tree_number
            visited.extend(tree_visited)
        return number, visited

    def nearest(self, point):
        """Return a point that is nearest to a point, and the list of those that are visited, in all trees."""
        check_point(point)
        best = None
        visited = []
        for tree in self.rows:
            # With a best point at the distance 0 no tree is visited: each one has the gap 0.
            best, tree_visited = sides_nearest(tree, point, best, self.lost)
            visited.extend(tree_visited)
        return best, visited


def cost_of(many):
    """Return moved() of a forest into which so many points were put."""
    check_number(many, 0, MOST_COSTED, "many")
    return cost_so_far(many)


def forest_most(many, x, y):
    """Return the greatest number of visits of `ranged` that find nothing, over all forests of so many points."""
    check_number(many, 0, MOST_ASKED, "many")
    check_state(x, "x")
    check_state(y, "y")
    # The parts of a tree of the greatest power of two have all other powers, too.
    rows = rows_for(1 << many.bit_length(), False)
    at = 4 * STATES[x] + STATES[y]
    return sum([rows[1 << place][at] for place in range(many.bit_length()) if many >> place & 1 == 1])
