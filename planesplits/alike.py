"""Trees that no rectangle tells apart: a range search visits equally many nodes in both, whatever is asked.

A tree is a quarter tree or a middle tree here. The functions of the interface check their arguments; the others expect
valid ones.
"""

from planesplits.checks import check_points, check_rectangle
from planesplits.errors import InvalidTree, TooLarge
from planesplits.points import LAST_PART_FIRST, part_of
from planesplits.quarters import fault_of, narrowed
from planesplits.sides import fault_in_sides

NO_BOUNDS = (None, None, None, None)
# Pairs of places in boxes: of a bound by x and one by y.
CORNERS = ((0, 1), (0, 3), (2, 1), (2, 3))
# What is added to the number at a place of a box for the bound of a rectangle on the other side, which is met first
# just ahead of the box, and then just in it.
STEPS = ((-1, 0), (-1, 0), (0, 1), (0, 1))
# A bound of a box at a place is parted by the bound of a rectangle at this one.
OPPOSITE = (2, 3, 0, 1)
MOST_TREES = 60
MOST_SET = 5


def is_tree(value):
    """Return whether any object is a quarter tree or a middle tree."""
    if isinstance(value, tuple) and len(value) == 3:
        return fault_in_sides(value) is None
    return fault_of(value) is None


def check_tree(value):
    """Raise InvalidTree with an empty path for what is no tree of either kind."""
    if not is_tree(value):
        raise InvalidTree(())


def quarter_boxes(tree):
    """Return the list of the boxes of the nodes of a quarter tree in reading order."""
    found = []
    pile = [(tree, NO_BOUNDS)]
    while pile:
        node, box = pile.pop()
        found.append(box)
        for part in LAST_PART_FIRST:
            if node[1][part] is not None:
                pile.append((node[1][part], narrowed(box, node[0], part)))
    return found


def middle_boxes(tree):
    """Return the list of the boxes of the nodes of a middle tree in reading order."""
    found = []
    pile = [(tree, 0, NO_BOUNDS)]
    while pile:
        (point, low, high), axis, box = pile.pop()
        found.append(box)
        split = (point[axis],)
        if high is not None:
            pile.append((high, 1 - axis, box[:axis] + split + box[axis + 1:]))
        if low is not None:
            pile.append((low, 1 - axis, box[:axis + 2] + split + box[axis + 3:]))
    return found


def boxes_of(tree):
    """Return the list of the boxes of the nodes of a tree in reading order."""
    if tree is None:
        return []
    return quarter_boxes(tree) if len(tree) == 2 else middle_boxes(tree)


def is_met(box, rectangle):
    """Return whether a box and a rectangle, each of which can lack bounds, have a place in common."""
    for low in (0, 1):
        if box[low] is not None and rectangle[low + 2] is not None and box[low] > rectangle[low + 2]:
            return False
        if rectangle[low] is not None and box[low + 2] is not None and rectangle[low] > box[low + 2]:
            return False
    return True


def count_met(found, rectangle):
    """Return how many of some boxes have a place in common with a rectangle."""
    return len([box for box in found if is_met(box, rectangle)])


def ends_at(found, place):
    """Return the ascending list of the numbers at a place of boxes."""
    return sorted([box[place] for box in found if box[place] is not None])


def corners_at(found, places):
    """Return the ascending list of the pairs of numbers at two places of boxes."""
    first, second = places
    return sorted([(box[first], box[second]) for box in found if box[first] is not None and box[second] is not None])


def signature_of(found):
    """Return the number of some boxes, the tuple of the lists of their ends, and that of the lists of their corners."""
    ends = [ends_at(found, place) for place in range(4)]
    return len(found), tuple(ends), tuple([corners_at(found, places) for places in CORNERS])


def boxes(tree):
    """Return the list of the boxes of the nodes in reading order."""
    check_tree(tree)
    return boxes_of(tree)


def visits(tree, rectangle):
    """Return how many nodes the range search of a rectangle visits."""
    check_tree(tree)
    check_rectangle(rectangle)
    return count_met(boxes_of(tree), rectangle)


def signature(tree):
    """Return what tells whether trees are alike: the number of nodes, the ends and the corners of their boxes."""
    check_tree(tree)
    return signature_of(boxes_of(tree))


def is_alike(one, other):
    """Return whether the range search of each rectangle visits equally many nodes in two trees."""
    check_tree(one)
    check_tree(other)
    return signature_of(boxes_of(one)) == signature_of(boxes_of(other))


def first_unlike(row, other):
    """Return the first entry that does not stand equally often in two ascending lists, None if there is none."""
    for entry, entry2 in zip(row, other):
        if entry != entry2:
            return min(entry, entry2)
    if len(row) == len(other):
        return None
    return max(row, other, key=len)[min(len(row), len(other))]


def with_bounds(bounds):
    """Return the rectangle with some bounds, tuples (place, number), and no others."""
    rectangle = [None, None, None, None]
    for place, number in bounds:
        rectangle[place] = number
    return tuple(rectangle)


def bounds_around(place, number):
    """Return the list of the two bounds, as tuples (place, number), that part a number at a place of boxes."""
    return [(OPPOSITE[place], number + step) for step in STEPS[place]]


def candidates(one, other):
    """Return the list of rectangles of which one parts two trees, for their boxes; [] for trees that are alike."""
    if len(one) != len(other):
        return [NO_BOUNDS]
    for place in range(4):
        number = first_unlike(ends_at(one, place), ends_at(other, place))
        if number is not None:
            return [with_bounds([bound]) for bound in bounds_around(place, number)]
    for places in CORNERS:
        pair = first_unlike(corners_at(one, places), corners_at(other, places))
        if pair is not None:
            first = bounds_around(places[0], pair[0])
            second = bounds_around(places[1], pair[1])
            return [with_bounds([bound, bound2]) for bound in first for bound2 in second]
    return []


def parting(one, other):
    """Return a rectangle for which two trees are visited unequally often, None for trees that are alike."""
    check_tree(one)
    check_tree(other)
    found = boxes_of(one)
    found2 = boxes_of(other)
    for rectangle in candidates(found, found2):
        if count_met(found, rectangle) != count_met(found2, rectangle):
            return rectangle
    return None


def groups(trees):
    """Return the list of the lists of the indexes of trees that are alike."""
    if not isinstance(trees, (list, tuple)) or len(trees) > MOST_TREES:
        raise InvalidTree((-1,))
    for index, tree in enumerate(trees):
        if not is_tree(tree):
            raise InvalidTree((index,))
    rows = []
    signatures = []
    for index, tree in enumerate(trees):
        told = signature_of(boxes_of(tree))
        if told in signatures:
            rows[signatures.index(told)].append(index)
        else:
            signatures.append(told)
            rows.append([index])
    return rows


def trees_of(points):
    """Return the list of all quarter trees of points, which stand in the order of their x-keys."""
    if not points:
        return [None]
    trees = []
    for root in points:
        parts = [[], [], [], []]
        for point in points:
            if point != root:
                parts[part_of(root, point)].append(point)
        # At most five points, so this does not go deep.
        part0, part1, part2, part3 = [trees_of(part) for part in parts]
        trees.extend([(root, (tree0, tree1, tree2, tree3))
                      for tree0 in part0 for tree1 in part1 for tree2 in part2 for tree3 in part3])
    return trees


def all_trees(points):
    """Return the list of all quarter trees to which the orders of points lead."""
    check_points(points)
    if len(points) > MOST_SET:
        raise TooLarge(MOST_SET)
    return trees_of(sorted(points))
