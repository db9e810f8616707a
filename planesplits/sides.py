"""Middle trees as they are made: each node is a point that splits its part of the plane in two, by x and y in turn.

A tree may be 500 levels deep, so nothing here but the growing, which makes no deep trees, calls itself. The functions
expect valid arguments, but for those that look for faults.
"""

from planesplits.checks import is_point
from planesplits.errors import InvalidTree
from planesplits.points import y_key

MOST_NODES = 500
# Keys farther out than those of all points.
ALL_KEYS = ((-10 ** 31, 0), (10 ** 31, 0))


def path_of(steps):
    """Return the path for its steps: None, or a tuple of the steps before the last one and the last one."""
    path = []
    while steps is not None:
        path.append(steps[1])
        steps = steps[0]
    return tuple(path[::-1])


def fault_in_sides(value):
    """Return the path of the first fault of any object as a middle tree, None if there is none."""
    many = 0
    # With each thing go its steps, its axis, and the keys between which those of its point must lie: those of its
    # axis, then those of the other one.
    pile = [(value, None, 0, ALL_KEYS, ALL_KEYS)]
    while pile:
        thing, steps, axis, own, other = pile.pop()
        if thing is None:
            continue
        many += 1
        if many > MOST_NODES or not isinstance(thing, tuple) or len(thing) != 3 or not is_point(thing[0]):
            return path_of(steps)
        point, low, high = thing
        key, key2 = (y_key(point), point) if axis == 1 else (point, y_key(point))
        if not own[0] < key < own[1] or not other[0] < key2 < other[1]:
            return path_of(steps)
        pile.append((high, (steps, 1), 1 - axis, other, (key, own[1])))
        pile.append((low, (steps, 0), 1 - axis, other, (own[0], key)))
    return None


def check_middle(value):
    """Raise InvalidTree for what is no middle tree."""
    path = fault_in_sides(value)
    if path is not None:
        raise InvalidTree(path)


def grown_sides(points, axis):
    """Return the tree to which points are built, beginning with an axis."""
    many = len(points)
    if many == 0:
        return None
    if many == 1:
        return (points[0], None, None)
    row = sorted(points, key=y_key) if axis == 1 else sorted(points)
    half = many // 2
    # No side has more than half of the points, so this does not go deep.
    return (row[half], grown_sides(row[:half], 1 - axis), grown_sides(row[half + 1:], 1 - axis))


def side_nodes(tree):
    """Return the list of the nodes of a tree in reading order."""
    nodes = []
    pile = [tree]
    while pile:
        node = pile.pop()
        while node is not None:
            nodes.append(node)
            point, low, high = node
            # The low side is gone into at once, with all below it.
            if high is not None:
                pile.append(high)
            node = low
    return nodes


def side_points(tree):
    """Return the list of the points of a tree in reading order."""
    return [node[0] for node in side_nodes(tree)]


def count_levels(tree):
    """Return the number of levels of a tree."""
    levels = 0
    row = [] if tree is None else [tree]
    while row:
        levels += 1
        row = [side for node in row for side in node[1:] if side is not None]
    return levels


def way_by_sides(tree, point):
    """Return the list of tuples (node, side) above the end of the way to a point, and what is there."""
    above = []
    node = tree
    axis = 0
    key = y_key(point)
    while node is not None and node[0] != point:
        x, y = node[0]
        is_high = key > (y, x) if axis == 1 else point > node[0]
        side = 1 if is_high else 0
        above.append((node, side))
        node = node[1 + side]
        axis = 1 - axis
    return above, node


def put_at_end(above, tree):
    """Return the whole tree in which a tree stands at the end of a way."""
    for (point, low, high), side in above[::-1]:
        tree = (point, low, tree) if side == 1 else (point, tree, high)
    return tree


def with_point(above, point):
    """Return the whole tree in which a point without sides stands at the end of a way."""
    return put_at_end(above, (point, None, None))


def without_top(above, node):
    """Return the whole tree without the point of a node at the end of a way, the rest of its part built anew."""
    return put_at_end(above, grown_sides(side_points(node)[1:], len(above) & 1))
