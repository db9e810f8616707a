"""Quarter trees: each node is a point that splits its part of the plane in four.

A tree may be 500 levels deep, so nothing here calls itself, and no trees are compared with each other.
The functions of the interface check their arguments; the others expect valid ones.
"""

from planesplits.checks import check_point, check_points, is_point
from planesplits.errors import AlreadyThere, InvalidTree, NotThere
from planesplits.growth import grown
from planesplits.points import LAST_PART_FIRST, part_of, y_key

MOST_NODES = 500
NO_PARTS = (None, None, None, None)
# Keys farther out than those of all points.
ALL_KEYS = ((-10 ** 31, 0), (-10 ** 31, 0), (10 ** 31, 0), (10 ** 31, 0))


def is_node(value):
    """Return whether any object has the form of a node, whatever its parts are."""
    if not isinstance(value, tuple) or len(value) != 2:
        return False
    return is_point(value[0]) and isinstance(value[1], tuple) and len(value[1]) == 4


def narrowed(ends, split, part):
    """Return the ends (x, y, x2, y2) of a part of what has other ends and is split at (x, y)."""
    x, y, x2, y2 = ends
    if part in (1, 3):
        x = split[0]
    else:
        x2 = split[0]
    if part in (2, 3):
        y = split[1]
    else:
        y2 = split[1]
    return (x, y, x2, y2)


def fault_of(value):
    """Return the path of the first fault of any object as a quarter tree, None if there is none."""
    many = 0
    # With each thing go its path, and the keys between which those of its point must lie.
    pile = [(value, (), ALL_KEYS)]
    while pile:
        thing, path, keys = pile.pop()
        if thing is None:
            continue
        many += 1
        if many > MOST_NODES or not is_node(thing):
            return path
        point, parts = thing
        split = (point, y_key(point))
        x, y, x2, y2 = keys
        if not x < point < x2 or not y < split[1] < y2:
            return path
        for part in LAST_PART_FIRST:
            # Without None, paths are made for nodes alone, and not for their empty parts.
            if parts[part] is not None:
                pile.append((parts[part], path + (part,), narrowed(keys, split, part)))
    return None


def check_quarter(value):
    """Raise InvalidTree for what is no quarter tree."""
    path = fault_of(value)
    if path is not None:
        raise InvalidTree(path)


def nodes_of(tree):
    """Return the list of the nodes of a tree in reading order."""
    nodes = []
    pile = [tree]
    while pile:
        node = pile.pop()
        if node is not None:
            nodes.append(node)
            pile.extend(node[1][::-1])
    return nodes


def reading(tree):
    """Return the list of the points of a tree in reading order."""
    return [node[0] for node in nodes_of(tree)]


def way_down(tree, point):
    """Return the nodes above a point, the numbers of the parts that lead to it, and what is there."""
    above = []
    path = []
    node = tree
    while node is not None and node[0] != point:
        part = part_of(node[0], point)
        above.append(node)
        path.append(part)
        node = node[1][part]
    return above, path, node


def put_below(above, path, tree):
    """Return the whole tree in which a tree stands below some nodes, at the end of a path."""
    for (point, parts), part in zip(above[::-1], path[::-1]):
        row = list(parts)
        row[part] = tree
        tree = (point, tuple(row))
    return tree


def with_leaf(above, path, point):
    """Return the whole tree in which a point without parts stands below some nodes, at the end of a path."""
    return put_below(above, path, (point, NO_PARTS))


def without_root(above, path, node):
    """Return the whole tree without the point of a node at the end of a path, the rest of its part built anew."""
    parts = [part for part in node[1] if part is not None]
    if len(parts) > 1:
        return put_below(above, path, grown(reading(node)[1:]))
    # A part that is built of its points in reading order stays as it is.
    return put_below(above, path, parts[0] if parts else None)


def level_counts(tree):
    """Return the list of how many nodes have a path of each length."""
    counts = []
    row = [] if tree is None else [tree]
    while row:
        counts.append(len(row))
        row = [part for node in row for part in node[1] if part is not None]
    return counts


def built(points):
    """Return the quarter tree that comes of inserting points in their order."""
    check_points(points)
    return grown(points)


def is_quarter(value):
    """Return whether any object is a quarter tree."""
    return fault_of(value) is None


def inserted(tree, point):
    """Return the tree with a point more, which may be the 501st."""
    check_quarter(tree)
    check_point(point)
    above, path, node = way_down(tree, point)
    if node is not None:
        raise AlreadyThere(point)
    return with_leaf(above, path, point)


def removed(tree, point):
    """Return the tree without a point, the part below it built anew in reading order."""
    check_quarter(tree)
    check_point(point)
    above, path, node = way_down(tree, point)
    if node is None:
        raise NotThere(point)
    return without_root(above, path, node)


def path_to(tree, point):
    """Return the path of a point as a list."""
    check_quarter(tree)
    check_point(point)
    above, path, node = way_down(tree, point)
    if node is None:
        raise NotThere(point)
    return path


def points_of(tree):
    """Return the list of the points in reading order."""
    check_quarter(tree)
    return reading(tree)


def levels(tree):
    """Return the list of how many nodes have a path of each length, from 0 on."""
    check_quarter(tree)
    return level_counts(tree)


def depth(tree):
    """Return the number of levels, 0 for None."""
    check_quarter(tree)
    return len(level_counts(tree))
