"""How many shapes there are, what trees are like on an average, and how many cells so many points can split.

The functions of the interface check their arguments; the others expect valid ones.
"""

from planesplits.checks import check_number
from planesplits.errors import InvalidTree, TooLarge
from planesplits.measures import added, lowest, parts_below, sizes_of
from planesplits.points import LAST_PART_FIRST
from planesplits.quarters import check_quarter, nodes_of
from planesplits.squares import MOST_FIGURES, WHOLE, check_cap, check_figures, codes_of, four_cells, place_at

MOST_COUNTED = 300
MOST_DEEP = 40
MOST_NODES = 200
MOST_PLACED = 200


def shape_of(tree):
    """Return the shape of a quarter tree."""
    check_quarter(tree)
    # Backwards a node comes just behind its parts, the first one last: so theirs are the last shapes on the pile.
    pile = [None]
    for point, parts in nodes_of(tree)[::-1]:
        pile.append(tuple([None if part is None else pile.pop() for part in parts]))
    return pile.pop()


def count_shapes(many):
    """Return how many shapes have so many nodes."""
    check_number(many, 0, MOST_COUNTED, "many")
    ways = 1
    for number in range(1, many + 1):
        ways = ways * (3 * many + number) // number
    return ways // (3 * many + 1)


def product_up_to(many, one, other):
    """Return the list of the first coefficients, from 0 to `many`, of the product of two such lists."""
    return [sum([one[k] * other[total - k] for k in range(total + 1)]) for total in range(many + 1)]


def count_deep(many, depth):
    """Return how many shapes with so many nodes have at most this depth."""
    check_number(many, 0, MOST_DEEP, "many")
    check_number(depth, 0, MOST_DEEP, "depth")
    # The numbers of shapes with 0, 1, .. nodes, at first of those without any depth.
    counts = [1] + [0] * many
    # No shape is deeper than it has nodes.
    for level in range(min(many, depth)):
        two = product_up_to(many, counts, counts)
        four = product_up_to(many, two, two)
        # One node goes to the root, the others to its four parts.
        counts = [1] + four[:many]
    return counts[many]


def rows_of_shape(shape):
    """Return the list of the nodes of a shape in reading order, each as often as it stands there."""
    rows = []
    pile = [] if shape is None else [(shape, ())]
    while pile:
        thing, path = pile.pop()
        if not isinstance(thing, tuple) or len(thing) != 4:
            raise InvalidTree(path)
        if len(rows) == MOST_NODES:
            raise TooLarge(MOST_NODES)
        rows.append(thing)
        for part in LAST_PART_FIRST:
            if thing[part] is not None:
                pile.append((thing[part], path + (part,)))
    return rows


def middle_and_corners(corner, many):
    """Return the point of a node, and the least x and y of each of its parts, for its own and the sizes of its parts.

    By x the parts 0 and 2 come before the root, by y the parts 0 and 1.
    """
    x, y = corner
    root_x = x + many[0] + many[2]
    root_y = y + many[0] + many[1]
    corners = [(x, y), (root_x + 1, y + many[0]), (x + many[0], root_y + 1)]
    return (root_x, root_y), corners + [(root_x + 1 + many[1], root_y + 1 + many[2])]


def shape_points(shape):
    """Return the list of the points of a tree with a shape in reading order."""
    rows = rows_of_shape(shape)
    sizes = sizes_of(rows)
    corners = [(0, 0)] * len(rows)
    points = []
    for number, parts in enumerate(rows):
        there = [part for part in range(4) if parts[part] is not None]
        numbers = parts_below(number, sizes)
        many = [0, 0, 0, 0]
        for part, node in zip(there, numbers):
            many[part] = sizes[node]
        point, part_corners = middle_and_corners(corners[number], many)
        points.append(point)
        for part, node in zip(there, numbers):
            corners[node] = part_corners[part]
    return points


def part_share(many, size):
    """Return in which share of the cases a part of the root of a random set of so many points has so many points."""
    check_number(many, 1, MOST_COUNTED, "many")
    check_number(size, 0, MOST_COUNTED, "size")
    # 1 / (size + 1) + .. + 1 / many, not yet in lowest terms; 0 if the part is not smaller than the set.
    top = 0
    bottom = 1
    for number in range(size + 1, many + 1):
        top = top * number + bottom
        bottom = bottom * number
    return lowest(top, bottom * many)


def random_sum(many):
    """Return the mean of the sums over all random sets of so many points, and all their orders."""
    check_number(many, 0, MOST_DEEP, "many")
    mean = (0, 1)
    # A mean R(k) counts with 1 / j in the share of a part for each j above k. So with P(j) for the sum of all R(k)
    # below j, all parts together come to 4 / n times the sum of all P(j) / j up to n.
    means = (0, 1)
    weighed = (0, 1)
    for size in range(1, many + 1):
        means = added(means, mean)
        weighed = added(weighed, (means[0], means[1] * size))
        mean = added((size, 1), (4 * weighed[0], weighed[1] * size))
    return mean


def check_square(figures, cap, many, most):
    """Raise InvalidNumber for what is no square, no cap, or more points than some, or than there are places."""
    check_figures(figures)
    check_cap(cap)
    check_number(many, 0, min(most, 1 << 2 * figures), "many")


def levels_with_more(figures, places):
    """Return on how many levels, from 0 on, a cell has more than so many places."""
    return len([level for level in range(figures + 1) if 1 << 2 * (figures - level) > places])


def most_splits(figures, cap, many):
    """Return how many cells so many points of a square can split at most."""
    check_square(figures, cap, many, 1 << 2 * MOST_FIGURES)
    return sum([min(1 << 2 * level, many // (cap + 1)) for level in range(levels_with_more(figures, cap))])


def fewest(figures, cap, many):
    """Return how many cells so many points of a square must split at least."""
    if many <= cap:
        return 0
    # The levels on which the parts of a cell have at least as many places as the cap.
    wide = levels_with_more(figures, cap - 1) - 1
    wide_cells = ((1 << 2 * wide) - 1) // 3
    lacking = many - cap
    needed = -(-lacking // (3 * cap))
    if needed <= wide_cells:
        return needed
    lacking -= 3 * cap * wide_cells
    room = (1 << 2 * (figures - wide)) - cap
    return wide_cells - (-lacking // room)


def fewest_splits(figures, cap, many):
    """Return how many cells so many points of a square must split at least."""
    check_square(figures, cap, many, 1 << 2 * MOST_FIGURES)
    return fewest(figures, cap, many)


def scattered_code(number, level):
    """Return the code, on a level, of the cell of a group with a number.

    The last figure of the number comes first, so that on each level the groups are in as many cells as can be.
    """
    code = 0
    for step in range(level):
        code = 4 * code + number % 4
        number = number // 4
    return code


def crowded(figures, cap, many):
    """Return a list of so many points of a square that split as many cells as can be."""
    check_square(figures, cap, many, MOST_PLACED)
    # The last level on which a cell can be split. Where none can be, there are too few points for a group.
    level = max(0, levels_with_more(figures, cap) - 1)
    codes = []
    for group in range(min(many // (cap + 1), 1 << 2 * level)):
        first = scattered_code(group, level) << 2 * (figures - level)
        codes.extend([first + number for number in range(cap + 1)])
    taken = set(codes)
    code = 0
    while len(codes) < many:
        if code not in taken:
            codes.append(code)
        code += 1
    return [place_at(code) for code in codes]


def spread(figures, cap, many):
    """Return a list of so many points of a square that split as few cells as can be."""
    check_square(figures, cap, many, MOST_PLACED)
    splits = fewest(figures, cap, many)
    cells = [WHOLE]
    for number in range(splits):
        cells.extend(four_cells(cells[number]))
    codes = []
    for cell in cells[splits:]:
        first, last = codes_of(figures, cell)
        takes = min(cap, last - first + 1, many - len(codes))
        codes.extend([first + number for number in range(takes)])
    return [place_at(code) for code in codes]
