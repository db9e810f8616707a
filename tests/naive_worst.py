"""The greatest numbers of visits, said again in the words of the document."""

import itertools

import naive
import naive_middles

STATES = ["none", "low", "high", "both"]
HAS_LOW = ("low", "both")
HAS_HIGH = ("high", "both")


def greatest(many, axis, x, y, is_counted, known=None):
    """Return the number in the table, for the states x and y and a root with an axis."""
    known = {} if known is None else known
    at = (many, axis, x, y)
    if at not in known:
        known[at] = from_sides(many, axis, x, y, is_counted, known)
    return known[at]


def from_sides(many, axis, x, y, is_counted, known):
    if many == 0:
        return 0
    if is_counted and x == "none" and y == "none":
        return 1
    low, high = many // 2, many - 1 - many // 2
    s, o = (y, x) if axis == 1 else (x, y)

    def side(points, state):
        """Return the number for a side whose state on the axis of the root is this one."""
        if axis == 1:
            return greatest(points, 0, x, state, is_counted, known)
        return greatest(points, 1, state, y, is_counted, known)

    between = side(low, "low" if s in HAS_LOW else "none") + side(high, "high" if s in HAS_HIGH else "none")
    rows = [between + (1 if is_counted or o != "none" else 0)]
    if s in HAS_LOW:
        rows.append(1 + side(high, s))
    if s in HAS_HIGH:
        rows.append(1 + side(low, s))
    return max(rows)


def ends(state, numbers):
    """Return all tuples (low, high) of ends in a state."""
    lows = numbers if state in HAS_LOW else [None]
    highs = numbers if state in HAS_HIGH else [None]
    return [(low, high) for low in lows for high in highs if low is None or high is None or low <= high]


def rectangles(x, y, numbers):
    return [(low, low2, high, high2) for low, high in ends(x, numbers) for low2, high2 in ends(y, numbers)]


def all_sets(many):
    """Return all sets of so many points that differ by the orders of both coordinates; these are even numbers."""
    return [[(2 * k, 2 * order[k]) for k in range(many)] for order in itertools.permutations(range(many))]


def turned(points):
    return [(y, x) for x, y in points]


def searched(many, axis, x, y, is_counted):
    """Return the greatest number over all sets of points and all rectangles with these states."""
    if axis == 1:
        return searched(many, 0, y, x, is_counted)
    best = 0
    for points in all_sets(many):
        tree = naive_middles.build(points)
        for rectangle in rectangles(x, y, range(-1, 2 * many)):
            if is_counted:
                best = max(best, len(naive_middles.counted(tree, rectangle)[1]))
            else:
                best = max(best, naive_middles.useless(tree, rectangle))
    return best


def shape(tree):
    return None if tree is None else tuple([shape(part) for part in tree[1]])


def quarter_trees(many):
    """Return all quarter trees of so many points, but for the numbers that are the coordinates."""
    return [naive.build(order) for points in all_sets(many) for order in itertools.permutations(points)]


def useless_in_quarter(tree, rectangle):
    found, visited = naive.ranged(tree, rectangle)
    return len(visited) - len(found)


def in_quarter(tree, x, y, path=(), known=None):
    """Return the greatest number for all quarter trees with the shape of a tree, by the words of the document.

    `known` holds what is known already, by paths and states.
    """
    known = {} if known is None else known
    if tree is None:
        return 0
    if (path, x, y) not in known:
        known[(path, x, y)] = max([from_parts(tree, split_x, split_y, path, known)
                                   for split_x in splits(x) for split_y in splits(y)])
    return known[(path, x, y)]


def from_parts(tree, split_x, split_y, path, known):
    """Return the number for one place of the split of the root on both axes."""
    number = 0 if split_x[0] == "between" and split_y[0] == "between" else 1
    for part in range(4):
        part_x, part_y = split_x[1 + part % 2], split_y[1 + part // 2]
        if part_x is not None and part_y is not None:
            number += in_quarter(tree[1][part], part_x, part_y, path + (part,), known)
    return number


def splits(state):
    """Return tuples (where the split lies, state of the low side, state of the high side), None for one not visited."""
    rows = [("between", "low" if state in HAS_LOW else "none", "high" if state in HAS_HIGH else "none")]
    if state in HAS_LOW:
        rows.append(("below", None, state))
    if state in HAS_HIGH:
        rows.append(("above", state, None))
    return rows
