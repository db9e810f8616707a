"""Trees that no rectangle tells apart, said again in the words of the document, for small trees."""

import naive
import naive_middles

CORNERS = [(0, 1), (0, 3), (2, 1), (2, 3)]


def nodes(tree):
    """Return tuples (point, list of tuples (axis, is it the high side?, root) of the nodes above) in reading order."""
    if tree is None:
        return []
    by_path = {}
    rows = []
    if len(tree) == 2:
        for path, point in naive.nodes(tree):
            by_path[path] = point
            above = [(by_path[path[:k]], path[k]) for k in range(len(path))]
            rows.append((point, [(0, part % 2 == 1, root) for root, part in above]
                         + [(1, part >= 2, root) for root, part in above]))
        return rows
    for path, node in naive_middles.nodes(tree):
        by_path[path] = node[0]
        rows.append((node[0], [(k % 2, path[k] == 1, by_path[path[:k]]) for k in range(len(path))]))
    return rows


def boxes(tree):
    found = []
    for point, above in nodes(tree):
        box = []
        for want_high in (True, False):
            for axis in (0, 1):
                numbers = [root[axis] for k, is_high, root in above if k == axis and is_high == want_high]
                box.append((max(numbers) if want_high else min(numbers)) if numbers else None)
        found.append(tuple(box))
    return found


def visits(tree, rectangle):
    search = naive.ranged if tree is None or len(tree) == 2 else naive_middles.ranged
    return len(search(tree, rectangle)[1])


def counted(values):
    return {value: values.count(value) for value in values}


def corner(found, places):
    pairs = [(box[places[0]], box[places[1]]) for box in found]
    return [pair for pair in pairs if None not in pair]


def place(found, at):
    return [box[at] for box in found if box[at] is not None]


def signature(tree):
    found = boxes(tree)
    return (len(found), tuple([sorted(place(found, at)) for at in range(4)]),
            tuple([sorted(corner(found, places)) for places in CORNERS]))


def values(at, number):
    """Return the tuples (place of the bound, value) for a number at a place."""
    if at < 2:
        return [(at + 2, number - 1), (at + 2, number)]
    return [(at - 2, number), (at - 2, number + 1)]


def candidates(one, other):
    """Return the rectangles for the first thing that does not stand equally often in both trees."""
    found, found2 = boxes(one), boxes(other)
    if len(found) != len(found2):
        return [[]]
    for at in range(4):
        for number in sorted(set(place(found, at) + place(found2, at))):
            if place(found, at).count(number) != place(found2, at).count(number):
                return [[bound] for bound in values(at, number)]
    for places in CORNERS:
        pairs, pairs2 = corner(found, places), corner(found2, places)
        for pair in sorted(set(pairs + pairs2)):
            if pairs.count(pair) != pairs2.count(pair):
                firsts, seconds = values(places[0], pair[0]), values(places[1], pair[1])
                return [[first, second] for first in firsts for second in seconds]
    return []


def parting(one, other):
    for bounds in candidates(one, other):
        rectangle = tuple([dict(bounds).get(at) for at in range(4)])
        if visits(one, rectangle) != visits(other, rectangle):
            return rectangle
    return None


def all_trees(points):
    if not points:
        return [None]
    trees = []
    for root in sorted(points):
        parts = [all_trees([point for point in points if naive.quarter(root, point) == k]) for k in range(4)]
        trees += [(root, (a, b, c, d)) for a in parts[0] for b in parts[1] for c in parts[2] for d in parts[3]]
    return trees
