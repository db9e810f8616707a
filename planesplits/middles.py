"""Middle trees: each node is a point that splits its part of the plane in two, by x and by y in turn.

The functions check their arguments.
"""

from planesplits.checks import check_number, check_point, check_points, check_rectangle
from planesplits.errors import AlreadyThere, NotThere
from planesplits.hunts import sides_counted, sides_nearest, sides_ranged
from planesplits.measures import sizes_of
from planesplits.sides import (
    check_middle, count_levels, fault_in_sides, grown_sides, put_at_end, side_nodes, side_points, way_by_sides,
    with_point, without_top,
)

GREATEST_BOTTOM = 1000


def middle(points):
    """Return the tree to which points are built, beginning with x."""
    check_points(points)
    return grown_sides(points, 0)


def is_middle(value):
    """Return whether any object is a middle tree."""
    return fault_in_sides(value) is None


def is_even(tree):
    """Return whether a middle tree is the one to which its points are built."""
    check_middle(tree)
    nodes = side_nodes(tree)
    sizes = sizes_of([node[1:] for node in nodes])
    for number, node in enumerate(nodes):
        # The low side, if there is one, comes right behind its node.
        low = 0 if node[1] is None else sizes[number + 1]
        if low != sizes[number] // 2:
            return False
    return True


def in_order(tree):
    """Return the list of the points in reading order."""
    check_middle(tree)
    return side_points(tree)


def height(tree):
    """Return the number of levels, 0 for None."""
    check_middle(tree)
    return count_levels(tree)


def put(tree, point):
    """Return the tree with a point more, which may be the 501st."""
    check_middle(tree)
    check_point(point)
    above, node = way_by_sides(tree, point)
    if node is not None:
        raise AlreadyThere(point)
    return with_point(above, point)


def taken(tree, point):
    """Return the tree without a point, the part below it built anew."""
    check_middle(tree)
    check_point(point)
    above, node = way_by_sides(tree, point)
    if node is None:
        raise NotThere(point)
    return without_top(above, node)


def sizes_on_way(above):
    """Return the list of how many points each node on a way and its sides have, and at last 1 for a new point there."""
    sizes = [1]
    for node, side in above[::-1]:
        sizes.append(1 + sizes[-1] + len(side_nodes(node[2 - side])))
    return sizes[::-1]


def put_evenly(tree, point, top, bottom):
    """Return the tree with a point more, in which the first part that is too uneven for it is built anew."""
    check_middle(tree)
    check_point(point)
    check_number(bottom, 3, GREATEST_BOTTOM, "bottom")
    check_number(top, bottom // 2 + 1, bottom - 1, "top")
    above, node = way_by_sides(tree, point)
    if node is not None:
        raise AlreadyThere(point)
    sizes = sizes_on_way(above)
    for at in range(len(above)):
        if sizes[at + 1] * bottom > top * sizes[at]:
            points = side_points(above[at][0]) + [point]
            return put_at_end(above[:at], grown_sides(points, at & 1))
    return with_point(above, point)


def middle_ranged(tree, rectangle):
    """Return the list of the points in a rectangle, and that of all that are visited."""
    check_middle(tree)
    check_rectangle(rectangle)
    return sides_ranged(tree, rectangle)


def middle_counted(tree, rectangle):
    """Return how many points lie in a rectangle, and the list of those that are visited."""
    check_middle(tree)
    check_rectangle(rectangle)
    return sides_counted(tree, rectangle)


def middle_nearest(tree, point):
    """Return a point of the tree that is nearest to a point, and the list of those that are visited."""
    check_middle(tree)
    check_point(point)
    return sides_nearest(tree, point, None, {})


def useless_visits(points, rectangle):
    """Return how many points that are visited in the tree to which points are built do not lie in a rectangle."""
    check_points(points)
    check_rectangle(rectangle)
    found, visited = sides_ranged(grown_sides(points, 0), rectangle)
    return len(visited) - len(found)
