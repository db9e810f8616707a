"""Orders of insertion: how many lead to one tree, and to which trees the orders of a set of points lead.

The functions of the interface check their arguments; the others expect valid ones.
"""

from planesplits.checks import MOST_POINTS, check_number, check_points, is_point
from planesplits.errors import InvalidOrder, TooLarge
from planesplits.measures import factorial, lowest, parts_below, sizes_of
from planesplits.points import part_of
from planesplits.quarters import check_quarter, nodes_of

MOST_NODES = 200
MOST_SET = 8
MOST_NEEDED = 10 ** 9


def sized(tree):
    """Return the lists of the points and of the sizes of the nodes of a tree in reading order."""
    check_quarter(tree)
    nodes = nodes_of(tree)
    if len(nodes) > MOST_NODES:
        raise TooLarge(MOST_NODES)
    return [node[0] for node in nodes], sizes_of([node[1] for node in nodes])


def orders_by_sizes(sizes):
    """Return how many orders a tree with nodes of these sizes has."""
    product = 1
    for size in sizes:
        product *= size
    return factorial(len(sizes)) // product


def count_orders(tree):
    """Return how many orders a tree has."""
    points, sizes = sized(tree)
    return orders_by_sizes(sizes)


def order_at(tree, number):
    """Return the order with a number as a list."""
    points, sizes = sized(tree)
    many = orders_by_sizes(sizes)
    check_number(number, 0, many - 1, "number")
    order = []
    # What can come next, by numbers. Of the orders that are left a share of size / left begins with each of these.
    ready = [0] if points else []
    for left in range(len(points), 0, -1):
        wanted = number * left // many
        at = 0
        skipped = 0
        while skipped + sizes[ready[at]] <= wanted:
            skipped += sizes[ready[at]]
            at += 1
        node = ready[at]
        order.append(points[node])
        number -= many * skipped // left
        many = many * sizes[node] // left
        ready[at:at + 1] = parts_below(node, sizes)
    return order


def numbers_in(points, sizes, order):
    """Return the list of the numbers of the points in an order; raise InvalidOrder if it is none of the tree."""
    if not isinstance(order, (list, tuple)):
        raise InvalidOrder(-1)
    # What cannot come yet, or not any more, is not ready.
    ready = {points[0]: 0} if points else {}
    numbers = []
    for index, entry in enumerate(order):
        # What is no point may be unhashable, so it must not be looked up.
        if not is_point(entry) or entry not in ready:
            raise InvalidOrder(index)
        number = ready.pop(entry)
        numbers.append(number)
        for part in parts_below(number, sizes):
            ready[points[part]] = part
    if len(numbers) < len(points):
        raise InvalidOrder(len(numbers))
    return numbers


def number_of(tree, order):
    """Return the number of an order of a tree."""
    points, sizes = sized(tree)
    many = orders_by_sizes(sizes)
    total = 0
    ready = [0]
    left = len(points)
    for number in numbers_in(points, sizes, order):
        skipped = sum([sizes[node] for node in ready if node < number])
        total += many * skipped // left
        many = many * sizes[number] // left
        left -= 1
        ready = [node for node in ready if node != number] + parts_below(number, sizes)
    return total


def check_set(points):
    """Raise InvalidPoints for what are no points, and TooLarge for more than 8 of them."""
    check_points(points)
    if len(points) > MOST_SET:
        raise TooLarge(MOST_SET)


def part_masks(points, root):
    """Return the list of the masks of the points in parts 0 to 3 for a root."""
    masks = [0, 0, 0, 0]
    for number, point in enumerate(points):
        if point != root:
            part = part_of(root, point)
            masks[part] += 1 << number
    return masks


def parts_by_set(points):
    """Return a dict by the masks of all sets that can be parts, ascending, with tuples (root, masks of its parts).

    The mask of a set has the bits of the numbers of its points; a part has a lesser mask than the whole set.
    """
    all_masks = [part_masks(points, root) for root in points]
    found = {}
    pile = [(1 << len(points)) - 1]
    while pile:
        mask = pile.pop()
        if mask in found:
            continue
        rows = []
        for root, masks in enumerate(all_masks):
            if mask >> root & 1 == 1:
                parts = [mask & part for part in masks]
                rows.append((root, parts))
                pile.extend(parts)
        found[mask] = rows
    return {mask: found[mask] for mask in sorted(found)}


def count_trees(points):
    """Return how many different trees the orders of points lead to."""
    check_set(points)
    counts = {0: 1}
    for mask, rows in parts_by_set(points).items():
        for root, parts in rows:
            product = 1
            for part in parts:
                product *= counts[part]
            counts[mask] = counts.get(mask, 0) + product
    return counts[(1 << len(points)) - 1]


def depths_by_root(depths, parts):
    """Return the list of the depths of trees with a root and these parts, for the depths that the parts can have."""
    # The deepest part decides, so that the others need only be able to be no deeper.
    least = max([depths[part][0] for part in parts])
    return [1 + depth for part in parts for depth in depths[part] if depth >= least]


def depths_of(points):
    """Return the ascending list of the depths of the trees to which the orders of points lead."""
    check_set(points)
    depths = {0: [0]}
    for mask, rows in parts_by_set(points).items():
        if mask > 0:
            found = [depth for root, parts in rows for depth in depths_by_root(depths, parts)]
            depths[mask] = sorted(set(found))
    return depths[(1 << len(points)) - 1]


def mean_sum(points):
    """Return the mean of the sums of the trees, over all orders of points, as a fraction in lowest terms."""
    check_set(points)
    sizes = {}
    # For each set the sum over all of its orders, which is no fraction, other than the mean.
    sums = {}
    for mask, rows in parts_by_set(points).items():
        size = len(rows)
        total = size * factorial(size)
        for root, parts in rows:
            for part in parts:
                # Each order of a part stands in equally many orders of all points but the root.
                total += factorial(size - 1) // factorial(sizes[part]) * sums[part]
        sizes[mask] = size
        sums[mask] = total
    return lowest(sums[(1 << len(points)) - 1], factorial(len(points)))


def cheapest_tree(points, cost_of):
    """Return a tree of least cost, for a function of the number of points and the costs of the parts.

    The root is the first point, by x-keys, with which this cost can be reached, and so it is in each part.
    """
    known = {0: (0, None)}
    in_order = sorted(points)
    for mask, rows in parts_by_set(in_order).items():
        for root, parts in rows:
            cost = cost_of(len(rows), [known[part][0] for part in parts])
            if mask not in known or cost < known[mask][0]:
                known[mask] = (cost, (in_order[root], tuple([known[part][1] for part in parts])))
    return known[(1 << len(points)) - 1][1]


def least_tree(points):
    """Return a tree of least depth."""
    check_set(points)
    return cheapest_tree(points, lambda size, depths: 1 + max(depths))


def lightest_tree(points):
    """Return a tree of least sum."""
    check_set(points)
    # Below a root each node is one deeper than in its part.
    return cheapest_tree(points, lambda size, sums: size + sum(sums))


def shallow(points):
    """Return the tree whose roots are in the middle by their x-keys, for points in the order of their x-keys."""
    if not points:
        return None
    root = points[len(points) // 2]
    parts = [[], [], [], []]
    for point in points:
        if point != root:
            parts[part_of(root, point)].append(point)
    # No part has more than half of the points, so this does not go deep.
    return (root, tuple([shallow(part) for part in parts]))


def shallow_tree(points):
    """Return the tree whose root is in the middle by the x-keys, and whose parts are made likewise."""
    check_points(points)
    return shallow(sorted(points))


def needed_depth(many):
    """Return the greatest of the least depths of all sets of so many points."""
    check_number(many, 0, MOST_NEEDED, "many")
    return many.bit_length()


def rising(many):
    """Return the list of the points (0, 0), (1, 1), .., so many."""
    check_number(many, 0, MOST_POINTS, "many")
    return [(k, k) for k in range(many)]
