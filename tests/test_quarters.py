"""Tests of the quarter trees [2.1], [2.2], [2.3]."""

import itertools
import random
import unittest

import naive
from asking import Case
from planesplits import errors
from planesplits.quarters import built, depth, inserted, is_quarter, levels, path_to, points_of, removed
from samples import (FAR, LEAF, NO_POINT_LISTS, NO_POINTS, NO_TREES, STEPS, TREE, chain, line, long_chain, node,
                     stairs)

GRID = [(x, y) for x in range(4) for y in range(4)]
TREE_POINTS = [(5, 5), (1, 2), (7, 2), (8, 1), (6, 3), (9, 9), (8, 8)]


def trees(many, most=9):
    """Return tuples (points, tree) of points of a grid in which many share an x or a y."""
    generator = random.Random(many)
    rows = []
    for turn in range(many):
        points = generator.sample(GRID, generator.randrange(most + 1))
        rows.append((points, naive.build(points)))
    return rows


def shuffled(many):
    """Return so many points in no order, of which many share an x or a y."""
    points = [(k % 25, k // 25) for k in range(many)]
    random.Random(many).shuffle(points)
    return points


class TreeCase(Case):

    def same_trees(self, one, other):
        """Ask that trees are the same, without Python's own comparison, which calls itself."""
        self.assertEqual(naive.nodes(one), naive.nodes(other))


class BuiltTest(TreeCase):

    def test_few(self):
        self.gives(None, built, [])
        self.gives(None, built, ())
        self.gives(((3, -4), LEAF), built, [(3, -4)])
        self.gives(TREE, built, TREE_POINTS)
        self.gives(TREE, built, tuple(TREE_POINTS))

    def test_example(self):
        self.gives(
            ((5, 5), (None, ((7, 2), (None, None, None, None)), None,
                      ((9, 9), (((8, 8), (None, None, None, None)), None, None, None)))),
            built, [(5, 5), (9, 9), (7, 2), (8, 8)])

    def test_all_orders(self):
        for points in [[(0, 0), (0, 1), (1, 0), (1, 1)], [(0, 0), (0, 1), (0, 2), (1, 1)], [(2, 0), (1, 1), (0, 2)]]:
            for order in itertools.permutations(points):
                self.gives(naive.build(order), built, list(order))

    def test_many_shapes(self):
        for points, tree in trees(100, 16):
            self.gives(tree, built, points)

    def test_list_stays(self):
        points = [(1, 1), (0, 0), (2, 2)]
        built(points)
        self.assertEqual(points, [(1, 1), (0, 0), (2, 2)])

    def test_chains(self):
        for part, (step_x, step_y) in enumerate(STEPS):
            self.same_trees(built(line(500, step_x, step_y)), long_chain(part, 500))
        for step_x, step_y, part in [(1, 0, 3), (0, 1, 3), (-1, 0, 0), (0, -1, 0)]:
            self.same_trees(built(line(500, step_x, step_y)), chain([(p, part) for p in line(500, step_x, step_y)]))

    def test_stairs(self):
        for part, (step_x, step_y) in enumerate(STEPS):
            points = stairs(500, step_x, step_y)
            self.assertEqual(sorted(points_of(built(points))), sorted(points))
            self.same_trees(built(points[:300]), naive.build(points[:300]))
            if part in (0, 3):
                self.same_trees(built(points), chain([(point, part) for point in points]))
            else:
                self.assertEqual(levels(built(points)), [1] + [2] * 249 + [1])

    def test_far(self):
        self.gives(node((FAR, -FAR), None, None, node((-FAR, FAR))), built, [(FAR, -FAR), (-FAR, FAR)])

    def test_500_and_501(self):
        self.same_trees(built(shuffled(500)), naive.build(shuffled(500)))
        self.fails_at_points(-1, built, shuffled(501))
        self.fails_at_points(-1, built, tuple(line(501, 1, 1)))

    def test_by_name(self):
        self.assertEqual(built(points=[(0, 0)]), ((0, 0), LEAF))

    def test_wrong_points(self):
        for index, value in NO_POINT_LISTS:
            self.fails_at_points(index, built, value)
        for value in NO_POINTS:
            self.fails_at_points(2, built, [(9, 9), (8, 8), value, (9, 9)])


def full_tree():
    """Return a tree of 500 nodes that is no chain."""
    return naive.build(shuffled(500))


def overfull_trees():
    """Return tuples (path of the 501st node, tree)."""
    rows = [((part,) * 500, long_chain(part, 501)) for part in range(4)]
    for point in [(-1, -1), (30, 30), (12, 30), (-1, 7), (30, 3)]:
        tree = naive.insert(full_tree(), point)
        rows.append((naive.nodes(tree)[500][0], tree))
    wide = node((0, 0), long_chain_from(-1, 300), None, None, long_chain_from(1, 300))
    rows.append(((3,) * 200, wide))
    return rows


def long_chain_from(step, many):
    return chain([(point, 3 if step > 0 else 0) for point in line(many + 1, step, step)[1:]])


def deep_faults():
    """Return tuples (path of the first fault, tree) with faults at the end of long chains."""
    rows = []
    for part, (step_x, step_y) in enumerate(STEPS):
        points = line(499, step_x, step_y)
        good = [(point, part) for point in points]
        for bad in [points[0], points[250], points[498], (-step_x, 499 * step_y), (499 * step_x, -step_y),
                    (250 * step_x, 600 * step_y), (True, 0), [0, 0], None]:
            rows.append(((part,) * 499, chain(good + [(bad, part)])))
        rows.append(((part,) * 300, chain(good[:300] + [((0, 0), part)] + good[300:])))
    return rows


class IsQuarterTest(TreeCase):

    def test_trees(self):
        self.gives(True, is_quarter, None)
        self.gives(True, is_quarter, ((0, 0), LEAF))
        self.gives(True, is_quarter, TREE)
        self.gives(True, is_quarter, node((0, 0), node((0, -1)), node((1, -1)), node((-1, 0 + 1)), node((0, 1))))
        for points, tree in trees(60):
            self.gives(True, is_quarter, tree)

    def test_points_with_the_same_x_or_y(self):
        self.gives(True, is_quarter, node((5, 5), None, None, None, node((5, 6))))
        self.gives(True, is_quarter, node((5, 5), None, None, None, node((6, 5))))
        self.gives(True, is_quarter, node((5, 5), node((4, 5))))
        self.gives(True, is_quarter, node((5, 5), node((5, 4))))
        for part in (1, 2):
            for point in [(5, 6), (6, 5), (4, 5), (5, 4)]:
                parts = [None] * 4
                parts[part] = node(point)
                self.gives(False, is_quarter, ((5, 5), tuple(parts)))

    def test_no_trees(self):
        for path, value in NO_TREES:
            self.gives(False, is_quarter, value)

    def test_limit(self):
        for part in range(4):
            self.gives(True, is_quarter, long_chain(part, 499))
            self.gives(True, is_quarter, long_chain(part, 500))
            self.gives(False, is_quarter, long_chain(part, 501))
        self.gives(True, is_quarter, full_tree())
        for path, value in overfull_trees() + deep_faults():
            self.gives(False, is_quarter, value)

    def test_very_deep(self):
        self.gives(False, is_quarter, long_chain(3, 5000))

    def test_by_name(self):
        self.assertIs(is_quarter(value=None), True)


CALLS = [
    lambda tree: inserted(tree, (77, 78)), lambda tree: removed(tree, (77, 78)), lambda tree: path_to(tree, (77, 78)),
    points_of, levels, depth, lambda tree: inserted(tree, None), lambda tree: removed(tree, [0, 0]),
    lambda tree: path_to(tree, (0, True)),
]


def spoilt(tree, path, value):
    """Return a tree with something else at a path."""
    if not path:
        return value
    return (tree[0], tuple([spoilt(part, path[1:], value) if k == path[0] else part for k, part in enumerate(tree[1])]))


class WrongTreesTest(TreeCase):

    def test_known_paths(self):
        for path, value in NO_TREES:
            for call in CALLS:
                self.fails_at_tree(path, call, value)

    def test_deep_ones(self):
        for path, value in overfull_trees() + deep_faults():
            for call in CALLS:
                self.fails_at_tree(path, call, value)

    def test_each_node_spoilt(self):
        bad = [0, [], (), LEAF, node((True, 0)), ((0, 0), LEAF[1:]), node((0, FAR + 1))]
        for points, tree in trees(30):
            for turn, (path, point) in enumerate(naive.nodes(tree)):
                self.fails_at_tree(path, depth, spoilt(tree, path, bad[turn % len(bad)]))
            for path, point in naive.nodes(tree):
                for part in range(4):
                    self.fails_at_tree(*first_two(spoilt(tree, path + (part,), node(point))))

    def test_two_faults(self):
        for points, tree in trees(60):
            paths = [path for path, point in naive.nodes(tree)]
            for one, other in itertools.combinations(paths, 2):
                if other[:len(one)] != one:
                    self.fails_at_tree(one, depth, spoilt(spoilt(tree, other, ()), one, []))

    def test_points_in_other_places(self):
        for points, tree in trees(30, 6):
            for path, point in naive.nodes(tree):
                for other in [(x, y) for x in range(-1, 5) for y in range(-1, 5)]:
                    value = spoilt(tree, path, (other, at(tree, path)[1]))
                    fault = naive.fault(value)
                    if fault is None:
                        self.gives(True, is_quarter, value)
                    else:
                        self.fails_at_tree(fault, levels, value)

    def test_limit_and_other_faults(self):
        tree = naive.insert(full_tree(), (30, 30))
        paths = [path for path, point in naive.nodes(tree)]
        last = paths[500]
        self.assertEqual(last, max(paths))
        self.fails_at_tree(last, depth, spoilt(tree, last, []))
        for index in (499, 300, 1):
            self.fails_at_tree(paths[index], depth, spoilt(tree, paths[index], []))
        tree = node((0, 0), long_chain_from(-1, 499), None, node((-1, 1)), node((1, 1), 5))
        self.fails_at_tree((2,), depth, tree)
        self.fails_at_tree((2,), depth, spoilt(tree, (2,), ()))
        self.fails_at_tree((3,), depth, spoilt(tree, (2,), None))
        self.gives(500, depth, spoilt(spoilt(tree, (2,), None), (3,), None))

    def test_round_list(self):
        value = []
        value.append(value)
        self.fails_at_tree((0,), depth, node((0, 0), value))
        self.fails_at_tree((), depth, value)


def first_two(value):
    return naive.fault(value), depth, value


def at(tree, path):
    for part in path:
        tree = tree[1][part]
    return tree


class InsertedTest(TreeCase):

    def test_few(self):
        self.gives(((1, 2), LEAF), inserted, None, (1, 2))
        self.gives(node((0, 0), node((-1, -1))), inserted, node((0, 0)), (-1, -1))
        self.gives(node((0, 0), None, node((1, -1))), inserted, node((0, 0)), (1, -1))
        self.gives(node((0, 0), None, None, node((-1, 1))), inserted, node((0, 0)), (-1, 1))
        self.gives(node((0, 0), None, None, None, node((1, 1))), inserted, node((0, 0)), (1, 1))

    def test_like_building(self):
        for points, tree in trees(100, 12):
            for point in [(-1, -1), (4, 4), (2, 9)] + [point for point in GRID if point not in points]:
                self.gives(naive.insert(tree, point), inserted, tree, point)
            if points:
                self.gives(tree, inserted, naive.build(points[:-1]), points[-1])

    def test_handed_tree_stays(self):
        tree = naive.build(TREE_POINTS)
        inserted(tree, (0, 9))
        self.assertEqual(tree, TREE)

    def test_node_with_four_parts(self):
        full = node((5, 5), node((1, 1)), node((9, 1)), node((1, 9)), node((9, 9)))
        self.gives(node((5, 5), node((1, 1)), node((9, 1)), node((1, 9), None, node((2, 8))), node((9, 9))),
                   inserted, full, (2, 8))

    def test_there_already(self):
        for points, tree in trees(50):
            for point in points:
                self.fails(errors.AlreadyThere, "point", point, inserted, tree, point)
        self.fails(errors.AlreadyThere, "point", (499, 499), inserted, long_chain(3, 500), (499, 499))

    def test_the_501st(self):
        for part, (step_x, step_y) in enumerate(STEPS):
            self.same_trees(inserted(long_chain(part, 499), (499 * step_x, 499 * step_y)), long_chain(part, 500))
            more = inserted(long_chain(part, 500), (500 * step_x, 500 * step_y))
            self.same_trees(more, long_chain(part, 501))
            self.fails_at_tree((part,) * 500, inserted, more, (0, 0))
        self.same_trees(inserted(full_tree(), (7, 30)), naive.insert(full_tree(), (7, 30)))

    def test_by_name(self):
        self.assertEqual(inserted(point=(1, 2), tree=None), ((1, 2), LEAF))

    def test_wrong_points(self):
        for value in NO_POINTS:
            self.fails_at_point(value, inserted, TREE, value)
            self.fails_at_point(value, inserted, None, value)
            self.fails_at_tree((0,), inserted, node((0, 0), []), value)


class RemovedTest(TreeCase):

    def test_example(self):
        tree = naive.build([(5, 5), (9, 9), (7, 2), (8, 8)])
        self.gives(((5, 5), (None, ((7, 2), LEAF), None, ((8, 8), LEAF))), removed, tree, (9, 9))

    def test_only_node_and_leaf(self):
        self.gives(None, removed, ((1, 2), LEAF), (1, 2))
        self.gives(((0, 0), LEAF), removed, node((0, 0), None, node((1, -1))), (1, -1))

    def test_four_parts(self):
        full = node((5, 5), node((1, 1), None, None, None, node((2, 2))), node((9, 1)), node((1, 9)), node((9, 9)))
        self.gives(node((1, 1), None, None, None, node((2, 2), None, node((9, 1)), node((1, 9)), node((9, 9)))),
                   removed, full, (5, 5))
        self.gives(node((5, 5), node((2, 2)), node((9, 1)), node((1, 9)), node((9, 9))), removed, full, (1, 1))

    def test_all_nodes(self):
        for points, tree in trees(150, 14):
            for point in points:
                self.gives(naive.remove(tree, point), removed, tree, point)

    def test_handed_tree_stays(self):
        tree = naive.build(TREE_POINTS)
        removed(tree, (7, 2))
        removed(tree, (5, 5))
        self.assertEqual(tree, TREE)

    def test_not_there(self):
        self.fails(errors.NotThere, "point", (0, 0), removed, None, (0, 0))
        for points, tree in trees(50):
            for point in [(-1, -1), (4, 4)] + [point for point in GRID if point not in points]:
                self.fails(errors.NotThere, "point", point, removed, tree, point)

    def test_chains(self):
        for part, (step_x, step_y) in enumerate(STEPS):
            points = line(500, step_x, step_y)
            for index in (0, 1, 250, 498, 499):
                left = points[:index] + points[index + 1:]
                self.same_trees(removed(long_chain(part, 500), points[index]), chain([(p, part) for p in left]))
            self.fails(errors.NotThere, "point", (600 * step_x, 600 * step_y), removed, long_chain(part, 500),
                       (600 * step_x, 600 * step_y))

    def test_full(self):
        points = shuffled(500)
        for index in (0, 1, 77, 499):
            self.same_trees(removed(full_tree(), points[index]), naive.remove(full_tree(), points[index]))

    def test_by_name(self):
        self.assertIsNone(removed(point=(1, 2), tree=((1, 2), LEAF)))

    def test_wrong_points(self):
        for value in NO_POINTS:
            self.fails_at_point(value, removed, TREE, value)
            self.fails_at_point(value, removed, None, value)
            self.fails_at_tree((0,), removed, node((0, 0), []), value)


class PathToTest(TreeCase):

    def test_paths(self):
        self.gives([], path_to, TREE, (5, 5))
        self.gives([0], path_to, TREE, (1, 2))
        self.gives([1, 1], path_to, TREE, (8, 1))
        self.gives([1, 2], path_to, TREE, (6, 3))
        self.gives([3, 0], path_to, TREE, (8, 8))

    def test_all_nodes(self):
        for points, tree in trees(60, 14):
            for path, point in naive.nodes(tree):
                self.gives(list(path), path_to, tree, point)

    def test_chains(self):
        for part, (step_x, step_y) in enumerate(STEPS):
            self.gives([part] * 499, path_to, long_chain(part, 500), (499 * step_x, 499 * step_y))
            self.gives([part] * 250, path_to, long_chain(part, 500), (250 * step_x, 250 * step_y))

    def test_not_there(self):
        self.fails(errors.NotThere, "point", (0, 0), path_to, None, (0, 0))
        for points, tree in trees(50):
            for point in [(-1, -1), (4, 4)] + [point for point in GRID if point not in points]:
                self.fails(errors.NotThere, "point", point, path_to, tree, point)

    def test_by_name(self):
        self.assertEqual(path_to(point=(8, 8), tree=TREE), [3, 0])

    def test_wrong_points(self):
        for value in NO_POINTS:
            self.fails_at_point(value, path_to, TREE, value)
            self.fails_at_point(value, path_to, None, value)
            self.fails_at_tree((0,), path_to, node((0, 0), []), value)


class WholeTreesTest(TreeCase):

    def test_none(self):
        self.gives([], points_of, None)
        self.gives([], levels, None)
        self.gives(0, depth, None)

    def test_few(self):
        self.gives([(1, 2)], points_of, ((1, 2), LEAF))
        self.gives([1], levels, ((1, 2), LEAF))
        self.gives(1, depth, ((1, 2), LEAF))
        self.gives([(5, 5), (1, 2), (7, 2), (8, 1), (6, 3), (9, 9), (8, 8)], points_of, TREE)
        self.gives([1, 3, 3], levels, TREE)
        self.gives(3, depth, TREE)

    def test_many_shapes(self):
        for points, tree in trees(100, 16) + [(shuffled(500), full_tree())]:
            rows = naive.nodes(tree)
            lengths = [len(path) for path, point in rows]
            deepest = max(lengths, default=-1) + 1
            self.gives([point for path, point in rows], points_of, tree)
            self.gives([lengths.count(k) for k in range(deepest)], levels, tree)
            self.gives(deepest, depth, tree)

    def test_chains(self):
        for part, (step_x, step_y) in enumerate(STEPS):
            self.gives(line(500, step_x, step_y), points_of, long_chain(part, 500))
            self.gives([1] * 500, levels, long_chain(part, 500))
            self.gives(500, depth, long_chain(part, 500))

    def test_by_name(self):
        self.assertEqual(points_of(tree=((1, 2), LEAF)), [(1, 2)])
        self.assertEqual(levels(tree=((1, 2), LEAF)), [1])
        self.assertEqual(depth(tree=((1, 2), LEAF)), 1)


if __name__ == "__main__":
    unittest.main()
