"""The same as the program does, said again in the words of the document, for small trees."""

NO_ENDS = (None, None, None, None)


def x_key(point):
    return (point[0], point[1])


def y_key(point):
    return (point[1], point[0])


def quarter(root, point):
    if root == point:
        return None
    number = 1 if x_key(point) > x_key(root) else 0
    return number + (2 if y_key(point) > y_key(root) else 0)


def build(points):
    if not points:
        return None
    root = points[0]
    return (root, tuple([build([p for p in points[1:] if quarter(root, p) == k]) for k in range(4)]))


def nodes(tree, path=()):
    """Return tuples (path, point) in reading order; of deep trees, too."""
    rows = []
    pile = [(tree, path)]
    while pile:
        node, path = pile.pop()
        if node is not None:
            rows.append((path, node[0]))
            pile.extend([(node[1][k], path + (k,)) for k in (3, 2, 1, 0) if node[1][k] is not None])
    return rows


def is_coordinate(value):
    return isinstance(value, int) and value is not True and value is not False and -10 ** 30 <= value <= 10 ** 30


def is_point(value):
    return isinstance(value, tuple) and len(value) == 2 and is_coordinate(value[0]) and is_coordinate(value[1])


def places(value, path=(), above=()):
    """Return tuples (path, is it a node in its part?) in reading order, without what is below the others."""
    if value is None:
        return []
    good = isinstance(value, tuple) and len(value) == 2 and is_point(value[0])
    good = good and isinstance(value[1], tuple) and len(value[1]) == 4
    good = good and all(quarter(root, value[0]) == number for root, number in above)
    rows = [(path, good)]
    if good:
        for number, part in enumerate(value[1]):
            rows += places(part, path + (number,), above + ((value[0], number),))
    return rows


def fault(value):
    for index, (path, good) in enumerate(places(value)):
        if not good or index == 500:
            return path
    return None


def insert(tree, point):
    if tree is None:
        return (point, (None,) * 4)
    number = quarter(tree[0], point)
    return (tree[0], tuple([insert(part, point) if k == number else part for k, part in enumerate(tree[1])]))


def remove(tree, point):
    if tree[0] == point:
        return build([p for path, p in nodes(tree) if p != point])
    number = quarter(tree[0], point)
    return (tree[0], tuple([remove(part, point) if k == number else part for k, part in enumerate(tree[1])]))


def inside(point, rectangle):
    x, y, x2, y2 = rectangle
    return not (x is not None and point[0] < x or x2 is not None and point[0] > x2
                or y is not None and point[1] < y or y2 is not None and point[1] > y2)


def distance(point, other):
    return (point[0] - other[0]) ** 2 + (point[1] - other[1]) ** 2


def gap(point, rectangle):
    """Return the distance of a point and the place of a rectangle that is nearest on both axes."""
    place = []
    for k in (0, 1):
        low, high = rectangle[k], rectangle[k + 2]
        there = point[k] if low is None else max(low, point[k])
        place.append(there if high is None else min(high, there))
    return distance(point, place)


def part_box(box, root, number):
    x, y, x2, y2 = box
    return (root[0] if number % 2 == 1 else x, root[1] if number >= 2 else y,
            x2 if number % 2 == 1 else root[0], y2 if number >= 2 else root[1])


def can_hold(root, number, rectangle):
    for k in (0, 1):
        is_high = (number % 2 == 1) if k == 0 else (number >= 2)
        low, high = rectangle[k], rectangle[k + 2]
        if not (is_high and (high is None or high >= root[k]) or not is_high and (low is None or low <= root[k])):
            return False
    return True


def box_lies_in(box, rectangle):
    return all([rectangle[k] is None or box[k] is not None and box[k] >= rectangle[k] for k in (0, 1)]
               + [rectangle[k] is None or box[k] is not None and box[k] <= rectangle[k] for k in (2, 3)])


def ranged(tree, rectangle):
    if tree is None:
        return [], []
    root, parts = tree
    found, visited = [root] if inside(root, rectangle) else [], [root]
    for number in range(4):
        if can_hold(root, number, rectangle):
            more_found, more_visited = ranged(parts[number], rectangle)
            found, visited = found + more_found, visited + more_visited
    return found, visited


def counted(tree, rectangle, box=NO_ENDS):
    if tree is None:
        return 0, []
    root, parts = tree
    if box_lies_in(box, rectangle):
        return len(nodes(tree)), [root]
    many, visited = 1 if inside(root, rectangle) else 0, [root]
    for number in range(4):
        if can_hold(root, number, rectangle):
            more, more_visited = counted(parts[number], rectangle, part_box(box, root, number))
            many, visited = many + more, visited + more_visited
    return many, visited


def nearest(tree, point):
    if tree is None:
        return None, []
    visited = []
    return look(tree, point, NO_ENDS, None, visited), visited


def look(tree, point, box, best, visited):
    root, parts = tree
    visited.append(root)
    if best is None or distance(root, point) < distance(best, point):
        best = root
    boxes = [part_box(box, root, number) for number in range(4)]
    for far, number in sorted([(gap(point, boxes[number]), number) for number in range(4)]):
        if parts[number] is not None and far < distance(best, point):
            best = look(parts[number], point, boxes[number], best, visited)
    return best
