"""Short trees: None, a place, or a fork (cell, (t0, t1, t2, t3)), at least two of whose parts are not None.

A fork lies deeper in the square than the one above it, so no tree has more than 40 forks one below the other.
"""

from planesplits.checks import MOST_POINTS
from planesplits.errors import InvalidTree
from planesplits.points import LAST_PART_FIRST
from planesplits.squares import (
    WHOLE, cell_of_both, cell_of_place, code_at, four_cells, is_cell, is_place, lies_within, part_within, shared_out,
)


def is_single(tree):
    """Return whether a short tree that is not None is a place."""
    return isinstance(tree[0], int)


def top_cell(figures, tree):
    """Return the cell of a fork, or that of a place."""
    return cell_of_place(figures, tree) if is_single(tree) else tree[0]


def grown_short(figures, points):
    """Return the short tree of points that stand in the order of their codes."""
    if len(points) < 2:
        return points[0] if points else None
    # All the others have codes between these two, so they lie in each cell in which both lie.
    cell = cell_of_both(figures, cell_of_place(figures, points[0]), points[-1])
    return (cell, tuple([grown_short(figures, part) for part in shared_out(figures, cell[0], points)]))


def is_fork(value, figures):
    """Return whether any object has the form of a fork, whatever the parts are that are not None."""
    if not isinstance(value, tuple) or len(value) != 2:
        return False
    cell, parts = value
    if not is_cell(cell, figures) or cell[0] == figures:
        return False
    return isinstance(parts, tuple) and len(parts) == 4 and len([part for part in parts if part is not None]) > 1


def short_fault(value, figures):
    """Return the path of the first fault of any object as a short tree, None if there is none."""
    many = 0
    pile = [] if value is None else [(value, (), WHOLE)]
    while pile:
        thing, path, room = pile.pop()
        if is_place(thing, figures):
            many += 1
            if many > MOST_POINTS or not lies_within(cell_of_place(figures, thing), room):
                return path
            continue
        if not is_fork(thing, figures) or not lies_within(thing[0], room):
            return path
        rooms = four_cells(thing[0])
        for part in LAST_PART_FIRST:
            if thing[1][part] is not None:
                pile.append((thing[1][part], path + (part,), rooms[part]))
    return None


def check_short(value, figures):
    """Raise InvalidTree for what is no short tree of points of a square."""
    path = short_fault(value, figures)
    if path is not None:
        raise InvalidTree(path)


def singles(tree):
    """Return the list of the points of a short tree in the order of their codes."""
    points = []
    pile = [tree]
    while pile:
        node = pile.pop()
        if node is None:
            continue
        if is_single(node):
            points.append(node)
        else:
            pile.extend(node[1][::-1])
    return points


def way_short(figures, tree, place):
    """Return the list of tuples (fork, part) above the end of the way to a place, and what is there.

    The way ends at None, at a point, or at a fork whose cell does not have the place.
    """
    above = []
    node = tree
    cell = cell_of_place(figures, place)
    while node is not None and not is_single(node) and lies_within(cell, node[0]):
        part = part_within(node[0], cell)
        above.append((node, part))
        node = node[1][part]
    return above, node


def joined(figures, tree, point):
    """Return the fork of a tree that is not None and a point that does not lie in its cell."""
    top = top_cell(figures, tree)
    cell = cell_of_both(figures, top, point)
    parts = [None, None, None, None]
    parts[part_within(cell, top)] = tree
    parts[part_within(cell, cell_of_place(figures, point))] = point
    return (cell, tuple(parts))


def with_part(fork, number, tree):
    """Return a fork with another tree as one of its parts; what is left of it if that makes it no fork."""
    parts = fork[1][:number] + (tree,) + fork[1][number + 1:]
    there = [part for part in parts if part is not None]
    return (fork[0], parts) if len(there) > 1 else there[0]


def put_back(above, tree):
    """Return the whole tree in which a tree stands at the end of a way."""
    for fork, part in above[::-1]:
        tree = with_part(fork, part, tree)
    return tree


def ordered_by_code(points):
    """Return the list of points in the order of their codes."""
    return sorted(points, key=code_at)
