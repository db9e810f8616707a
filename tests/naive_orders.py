"""Orders, shapes and averages, said again in the words of the document, for few points."""

import itertools
from fractions import Fraction

import naive


def orders(tree):
    """Return all orders of a tree, those first that are less as lists of the numbers of the points."""
    points = [point for path, point in naive.nodes(tree)]
    return [list(order) for order in itertools.permutations(points) if naive.build(order) == tree]


def fault(tree, order):
    """Return the index of the first fault of a list or tuple as an order of a tree, None if there is none."""
    paths = {point: path for path, point in naive.nodes(tree)}
    for index, entry in enumerate(order):
        if not naive.is_point(entry) or entry not in paths or entry in order[:index]:
            return index
        roots = [point for point, path in paths.items()
                 if len(path) < len(paths[entry]) and path == paths[entry][:len(path)]]
        if [point for point in roots if point not in order[:index]]:
            return index
    return None if len(order) == len(paths) else len(order)


def depth(tree):
    return max([len(path) + 1 for path, point in naive.nodes(tree)], default=0)


def depth_sum(tree):
    return sum([len(path) + 1 for path, point in naive.nodes(tree)])


def trees(points):
    """Return all different trees to which the orders of points lead."""
    return list(dict.fromkeys([naive.build(order) for order in itertools.permutations(points)]))


def fraction(number):
    number = Fraction(number)
    return (number.numerator, number.denominator)


def mean_sum(points):
    sums = [depth_sum(naive.build(order)) for order in itertools.permutations(points)]
    return fraction(Fraction(sum(sums), len(sums)))


def best_tree(points, cost):
    """Return the tree of least cost whose root is the first point, by x-keys, with which this cost can be reached."""
    if not points:
        return None
    costs = [(cost(tree), tree[0]) for tree in trees(points)]
    root = min(costs)[1]
    parts = [[point for point in points if naive.quarter(root, point) == number] for number in range(4)]
    return (root, tuple([best_tree(part, cost) for part in parts]))


def shallow(points):
    if not points:
        return None
    root = sorted(points)[len(points) // 2]
    parts = [[point for point in points if naive.quarter(root, point) == number] for number in range(4)]
    return (root, tuple([shallow(part) for part in parts]))


def shapes(many):
    """Return all shapes with so many nodes."""
    if many == 0:
        return [None]
    rows = []
    for sizes in itertools.product(range(many), repeat=4):
        if sum(sizes) == many - 1:
            rows += [parts for parts in itertools.product(*[shapes(size) for size in sizes])]
    return rows


def shape_depth(shape):
    return 0 if shape is None else 1 + max([shape_depth(part) for part in shape])


def shape(tree):
    return None if tree is None else tuple([shape(part) for part in tree[1]])


def along(shape, path, first, second, behind):
    """Return the paths of a shape: first and second are the parts ahead of the root, behind those behind it."""
    if shape is None:
        return []
    rows = [row for number in (first, second) for row in along(shape[number], path + (number,), first, second, behind)]
    rows.append(path)
    return rows + [row for number in behind for row in along(shape[number], path + (number,), first, second, behind)]


def shape_points(shape):
    by_x = along(shape, (), 0, 2, (1, 3))
    by_y = along(shape, (), 0, 1, (2, 3))
    return [(by_x.index(path), by_y.index(path)) for path in sorted(by_x)]


def random_sets(many):
    return [list(zip(range(many), order)) for order in itertools.permutations(range(many))]


def part_share(many, size, part):
    """Return in which share of the cases a part of the root of a random set has a size."""
    cases = [sum([naive.quarter(root, point) == part for point in points])
             for points in random_sets(many) for root in points]
    return fraction(Fraction(cases.count(size), len(cases)))


def random_sum(many):
    """Return the mean of the sums over all random sets of so many points and all their orders."""
    means = [Fraction(*mean_sum(points)) for points in random_sets(many)]
    return fraction(sum(means) / len(means))


def mean_by_parts(many):
    """Return the means of the sums for up to so many points, by the shares of the sizes of parts."""
    harmonic = [Fraction(0)]
    for k in range(1, many + 1):
        harmonic.append(harmonic[-1] + Fraction(1, k))
    means = []
    for n in range(many + 1):
        means.append(n + 4 * sum([(harmonic[n] - harmonic[k]) / n * means[k] for k in range(n)], Fraction(0)))
    return [fraction(mean) for mean in means]
