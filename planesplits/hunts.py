"""Searches in middle trees, told with the points that they visit.

A tree may be 500 levels deep, so the searches keep what they have yet to visit on a pile, the next one last. A node is
kept with its axis. The functions expect valid arguments.
"""

from planesplits.sides import side_nodes

# Farther out than all coordinates and all ends.
NO_END = 10 ** 32


def all_ends(rectangle):
    """Return the ends of a rectangle, with numbers out of reach for those that lack."""
    x, y, x2, y2 = rectangle
    return (-NO_END if x is None else x, -NO_END if y is None else y,
            NO_END if x2 is None else x2, NO_END if y2 is None else y2)


def sides_ranged(tree, rectangle):
    """Return the list of the points in a rectangle, and that of all that are visited."""
    ends = all_ends(rectangle)
    x, y, x2, y2 = ends
    found = []
    visited = []
    pile = [(tree, 0)]
    while pile:
        node, axis = pile.pop()
        if node is None:
            continue
        point, low, high = node
        visited.append(point)
        if x <= point[0] <= x2 and y <= point[1] <= y2:
            found.append(point)
        if ends[2 + axis] >= point[axis]:
            pile.append((high, 1 - axis))
        if ends[axis] <= point[axis]:
            pile.append((low, 1 - axis))
    return found, visited


def sides_counted(tree, rectangle):
    """Return how many points lie in a rectangle, and the list of those that are visited."""
    ends = all_ends(rectangle)
    x, y, x2, y2 = ends
    number = 0
    visited = []
    pile = [(tree, 0, (-NO_END, -NO_END, NO_END, NO_END))]
    while pile:
        node, axis, box = pile.pop()
        if node is None:
            continue
        point, low, high = node
        visited.append(point)
        # What lacks is equally far out here and there, so a box without a bound lies in a rectangle without the end.
        if x <= box[0] and y <= box[1] and box[2] <= x2 and box[3] <= y2:
            number += len(side_nodes(node))
            continue
        if x <= point[0] <= x2 and y <= point[1] <= y2:
            number += 1
        split = point[axis]
        if ends[2 + axis] >= split:
            pile.append((high, 1 - axis, box[:axis] + (split,) + box[axis + 1:]))
        if ends[axis] <= split:
            pile.append((low, 1 - axis, box[:2 + axis] + (split,) + box[3 + axis:]))
    return number, visited


def sides_nearest(tree, point, best, gone):
    """Return the nearest point of a tree, or a better one that is known, and the list of those that are visited.

    `best` is None, or the nearest point so far; those that are gone never become the best one.
    """
    x, y = point
    least = None if best is None else (x - best[0]) ** 2 + (y - best[1]) ** 2
    visited = []
    # With each node go the numbers by which the point lies beyond the box on its axis, and on the other one.
    pile = [(tree, 0, 0, 0)]
    while pile:
        node, axis, own, other = pile.pop()
        if node is None or least is not None and own * own + other * other >= least:
            continue
        root, low, high = node
        visited.append(root)
        far = (x - root[0]) ** 2 + (y - root[1]) ** 2
        if (least is None or far < least) and root not in gone:
            best = root
            least = far
        beyond = point[axis] - root[axis]
        low_row = (low, 1 - axis, other, max(own, beyond))
        high_row = (high, 1 - axis, other, max(own, -beyond))
        # The nearer side comes first, so it is put on the pile last; of equal ones that is the low one.
        pile.extend([low_row, high_row] if high_row[3] < low_row[3] else [high_row, low_row])
    return best, visited
