"""Searches in quarter trees, told with the points that they visit.

A tree may be 500 levels deep, so the searches keep what they have yet to visit on a pile, the next one last.
"""

from planesplits.checks import check_point, check_rectangle
from planesplits.points import LAST_PART_FIRST, lies_in, square_distance, square_gap
from planesplits.quarters import check_quarter, narrowed, reading

NO_ENDS = (None, None, None, None)


def reaches(is_high, split, low, high):
    """Return whether something from `low` to `high` can lie on the high, or the low, side of a split."""
    if is_high:
        return high is None or high >= split
    return low is None or low <= split


def can_hold(part, root, rectangle):
    """Return whether a part for a root can hold something of a rectangle."""
    x, y, x2, y2 = rectangle
    return reaches(part in (1, 3), root[0], x, x2) and reaches(part in (2, 3), root[1], y, y2)


def held_parts(node, rectangle):
    """Return the numbers of a node's parts that can hold something and are not None, the last one first."""
    root, parts = node
    return [part for part in LAST_PART_FIRST if parts[part] is not None and can_hold(part, root, rectangle)]


def box_lies_in(box, rectangle):
    """Return whether each end of a rectangle has a bound of a box that is not beyond it."""
    for low in (0, 1):
        if rectangle[low] is not None and (box[low] is None or box[low] < rectangle[low]):
            return False
    for high in (2, 3):
        if rectangle[high] is not None and (box[high] is None or box[high] > rectangle[high]):
            return False
    return True


def parts_by_gap(node, box, point):
    """Return tuples (gap, part, box) of a node's parts that are not None, the nearest one to a point first."""
    root, parts = node
    rows = []
    for number, part in enumerate(parts):
        if part is not None:
            part_box = narrowed(box, root, number)
            rows.append((square_gap(point, part_box), part, part_box))
    # Rows with equal gaps stay in the order of the numbers, as sorting keeps their order.
    return sorted(rows, key=lambda row: row[0])


def parts_ranged(tree, rectangle):
    """Return the list of the points in a rectangle, and that of all that are visited, for valid arguments."""
    found = []
    visited = []
    pile = [] if tree is None else [tree]
    while pile:
        node = pile.pop()
        visited.append(node[0])
        if lies_in(node[0], rectangle):
            found.append(node[0])
        pile.extend([node[1][part] for part in held_parts(node, rectangle)])
    return found, visited


def parts_nearest(tree, point):
    """Return the nearest point, and the list of those that are visited, for valid arguments."""
    best = None
    least = None
    visited = []
    pile = [] if tree is None else [(0, tree, NO_ENDS)]
    while pile:
        gap, node, box = pile.pop()
        if least is not None and gap >= least:
            continue
        visited.append(node[0])
        here = square_distance(point, node[0])
        if least is None or here < least:
            best = node[0]
            least = here
        pile.extend(parts_by_gap(node, box, point)[::-1])
    return best, visited


def ranged(tree, rectangle):
    """Return the list of the points in a rectangle, and that of all that are visited."""
    check_quarter(tree)
    check_rectangle(rectangle)
    return parts_ranged(tree, rectangle)


def counted(tree, rectangle):
    """Return how many points lie in a rectangle, and the list of those that are visited."""
    check_quarter(tree)
    check_rectangle(rectangle)
    number = 0
    visited = []
    pile = [] if tree is None else [(tree, NO_ENDS)]
    while pile:
        node, box = pile.pop()
        visited.append(node[0])
        if box_lies_in(box, rectangle):
            number += len(reading(node))
            continue
        if lies_in(node[0], rectangle):
            number += 1
        for part in held_parts(node, rectangle):
            pile.append((node[1][part], narrowed(box, node[0], part)))
    return number, visited


def nearest(tree, point):
    """Return a point of the tree that is nearest to a point, and the list of those that are visited."""
    check_quarter(tree)
    check_point(point)
    return parts_nearest(tree, point)
