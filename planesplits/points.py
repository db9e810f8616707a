"""Points of the plane: their parts, orders and distances.

The functions of the interface check their arguments; the others expect valid ones.
"""

from planesplits.checks import check_number, check_point, check_points, check_rectangle

# What is put on a pile in this order comes off it in the order of the numbers.
LAST_PART_FIRST = (3, 2, 1, 0)


def y_key(point):
    """Return the y-key of a point. (A point is its own x-key.)"""
    return (point[1], point[0])


def part_of(root, point):
    """Return the number of the part in which a point lies for a root, None for the same point."""
    x, y = root
    # With another x, the x alone decides the x-key, and equal y go by the x.
    if point[0] > x:
        return 3 if point[1] >= y else 1
    if point[0] < x:
        return 2 if point[1] > y else 0
    if point[1] == y:
        return None
    # With the same x, both keys go by the y.
    return 3 if point[1] > y else 0


def lies_in(point, rectangle):
    """Return whether a point lies in a rectangle."""
    return square_gap(point, rectangle) == 0


def square_distance(point, other):
    """Return the distance of two points."""
    return (point[0] - other[0]) ** 2 + (point[1] - other[1]) ** 2


def overshoot(coordinate, low, high):
    """Return how far a coordinate lies beyond two ends, either of which can lack."""
    if low is not None and coordinate < low:
        return low - coordinate
    if high is not None and coordinate > high:
        return coordinate - high
    return 0


def square_gap(point, rectangle):
    """Return the distance of a point and a rectangle."""
    x, y, x2, y2 = rectangle
    # The ends are integers, so no place between integers is nearer than the nearest integer one.
    return overshoot(point[0], x, x2) ** 2 + overshoot(point[1], y, y2) ** 2


def quarter(root, point):
    """Return the number of the part in which a point lies for a root, None for the same point."""
    check_point(root)
    check_point(point)
    return part_of(root, point)


def ordered(points, axis):
    """Return the list of points in the order of their x-keys (axis 0) or y-keys (axis 1)."""
    check_points(points)
    check_number(axis, 0, 1, "axis")
    if axis == 1:
        return sorted(points, key=y_key)
    return sorted(points)


def is_inside(point, rectangle):
    """Return whether a point lies in a rectangle."""
    check_point(point)
    check_rectangle(rectangle)
    return lies_in(point, rectangle)


def distance(point, other):
    """Return the distance of two points."""
    check_point(point)
    check_point(other)
    return square_distance(point, other)


def gap(point, rectangle):
    """Return the distance of a point and a rectangle."""
    check_point(point)
    check_rectangle(rectangle)
    return square_gap(point, rectangle)
