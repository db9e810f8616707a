"""Middle trees and forests, said again in the words of the document, for small trees."""

import naive

NO_ENDS = (None, None, None, None)


def key(axis, point):
    return (point[1], point[0]) if axis == 1 else (point[0], point[1])


def build(points, axis=0):
    points = sorted(points, key=lambda point: key(axis, point))
    if not points:
        return None
    half = len(points) // 2
    return (points[half], build(points[:half], 1 - axis), build(points[half + 1:], 1 - axis))


def nodes(tree, path=()):
    """Return tuples (path, node) in reading order; of deep trees, too."""
    rows = []
    pile = [(tree, path)]
    while pile:
        node, path = pile.pop()
        if node is not None:
            rows.append((path, node))
            pile.extend([(node[2], path + (1,)), (node[1], path + (0,))])
    return rows


def points_of(tree):
    return [node[0] for path, node in nodes(tree)]


def places(value, path=(), above=()):
    """Return tuples (path, is it a node on its sides?) in reading order, without what is below the others."""
    if value is None:
        return []
    good = isinstance(value, tuple) and len(value) == 3 and naive.is_point(value[0])
    for axis, root, side in above:
        good = good and value[0] != root and (key(axis, value[0]) > key(axis, root)) == (side == 1)
    rows = [(path, good)]
    if good:
        for side in (0, 1):
            rows += places(value[1 + side], path + (side,), above + ((len(path) % 2, value[0], side),))
    return rows


def fault(value):
    for index, (path, good) in enumerate(places(value)):
        if not good or index == 500:
            return path
    return None


def side_of(axis, root, point):
    return 1 if key(axis, point) > key(axis, root) else 0


def with_side(tree, side, new):
    return (tree[0], tree[1], new) if side == 1 else (tree[0], new, tree[2])


def put(tree, point, axis=0):
    if tree is None:
        return (point, None, None)
    side = side_of(axis, tree[0], point)
    return with_side(tree, side, put(tree[1 + side], point, 1 - axis))


def taken(tree, point, axis=0):
    if tree[0] == point:
        return build([other for other in points_of(tree) if other != point], axis)
    side = side_of(axis, tree[0], point)
    return with_side(tree, side, taken(tree[1 + side], point, 1 - axis))


def put_evenly(tree, point, top, bottom):
    return evened(put(tree, point), point, top, bottom, 0)


def evened(tree, point, top, bottom, axis):
    """Return a tree with a new point in which the first part that is too uneven on the way to it is built anew."""
    if tree[0] == point:
        return tree
    side = side_of(axis, tree[0], point)
    # More than top / bottom of all.
    if len(nodes(tree[1 + side])) * bottom > len(nodes(tree)) * top:
        return build(points_of(tree), axis)
    return with_side(tree, side, evened(tree[1 + side], point, top, bottom, 1 - axis))


def can_hold(axis, root, side, rectangle):
    low, high = rectangle[axis], rectangle[axis + 2]
    if side == 1:
        return high is None or high >= root[axis]
    return low is None or low <= root[axis]


def side_box(box, axis, root, side):
    box = list(box)
    box[axis if side == 1 else axis + 2] = root[axis]
    return tuple(box)


def ranged(tree, rectangle, axis=0):
    if tree is None:
        return [], []
    root = tree[0]
    found, visited = [root] if naive.inside(root, rectangle) else [], [root]
    for side in (0, 1):
        if can_hold(axis, root, side, rectangle):
            more_found, more_visited = ranged(tree[1 + side], rectangle, 1 - axis)
            found, visited = found + more_found, visited + more_visited
    return found, visited


def counted(tree, rectangle, axis=0, box=NO_ENDS):
    if tree is None:
        return 0, []
    root = tree[0]
    if naive.box_lies_in(box, rectangle):
        return len(nodes(tree)), [root]
    many, visited = 1 if naive.inside(root, rectangle) else 0, [root]
    for side in (0, 1):
        if can_hold(axis, root, side, rectangle):
            more, more_visited = counted(tree[1 + side], rectangle, 1 - axis, side_box(box, axis, root, side))
            many, visited = many + more, visited + more_visited
    return many, visited


def nearest(tree, point, best=None, gone=()):
    visited = []
    if tree is not None and (best is None or naive.distance(best, point) > 0):
        best = look(tree, point, 0, NO_ENDS, best, visited, gone)
    return best, visited


def look(tree, point, axis, box, best, visited, gone):
    root = tree[0]
    visited.append(root)
    if root not in gone and (best is None or naive.distance(root, point) < naive.distance(best, point)):
        best = root
    boxes = [side_box(box, axis, root, side) for side in (0, 1)]
    for far, side in sorted([(naive.gap(point, boxes[side]), side) for side in (0, 1)]):
        if tree[1 + side] is not None and (best is None or far < naive.distance(best, point)):
            best = look(tree[1 + side], point, 1 - axis, boxes[side], best, visited, gone)
    return best


def useless(tree, rectangle):
    found, visited = ranged(tree, rectangle)
    return len(visited) - len(found)


class Forest:
    """A forest in which the deeds are right: points that can be put in and taken away."""

    def __init__(self):
        self.rows = []
        self.lost = []
        self.cost = 0

    def known(self):
        return [point for tree in self.rows for point in points_of(tree)]

    def put(self, point):
        if point in self.lost:
            self.lost.remove(point)
            return 0
        place = 0
        while place < len(self.rows) and self.rows[place] is not None:
            place += 1
        points = [point] + [other for tree in self.rows[:place] for other in points_of(tree)]
        self.rows = [None] * place + [build(points)] + self.rows[place + 1:]
        self.cost += 2 ** place
        return 2 ** place

    def take(self, point):
        self.lost.append(point)
        if 2 * len(self.lost) <= len(self.known()):
            return 0
        left = sorted([other for other in self.known() if other not in self.lost])
        many = len(left)
        self.rows, self.lost = [], []
        for place in range(9, -1, -1):
            if 2 ** place <= len(left):
                if not self.rows:
                    self.rows = [None] * (place + 1)
                self.rows[place] = build(left[:2 ** place])
                left = left[2 ** place:]
        self.cost += many
        return many

    def ranged(self, rectangle):
        rows = [ranged(tree, rectangle) for tree in self.rows]
        found = [point for row in rows for point in row[0] if point not in self.lost]
        return found, [point for row in rows for point in row[1]]

    def counted(self, rectangle):
        inside = [point for point in self.known() if point not in self.lost and naive.inside(point, rectangle)]
        return len(inside), [point for tree in self.rows for point in counted(tree, rectangle)[1]]

    def nearest(self, point):
        best, visited = None, []
        for tree in self.rows:
            best, more = nearest(tree, point, best, self.lost)
            visited += more
        return best, visited
