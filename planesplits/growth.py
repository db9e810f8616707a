"""How points grow to the trees that come of putting them in, one after another.

Each point has a row: the numbers of the points that are the roots of its parts 0 to 3, or of its low and its high
side. The number of all points, which none of them has, stands for a part, or a side, without a root. No row hangs on
the points behind its own but by the numbers of these; so the rows of all points tell the trees of the first ones, too.
"""

from planesplits.points import part_of, y_key

# For fewer points the steps are faster than the masks, also for those in a line.
MANY_POINTS = 32


def rows_by_steps(points):
    """Return the rows of points, for each of which one goes down from the root."""
    many = len(points)
    rows = []
    for number, point in enumerate(points):
        at = 0
        while at < number:
            row = rows[at]
            part = part_of(points[at], point)
            at = row[part]
        if number > 0:
            row[part] = number
        rows.append([many, many, many, many])
    return rows


def masks_around(numbers):
    """Return the masks of what stands before each number, and behind it, in a list of all numbers from 0 on.

    The least number of a mask is its highest bit.
    """
    many = len(numbers)
    before = [0] * many
    behind = [0] * many
    done = 0
    left = (1 << many) - 1
    for number in numbers:
        bit = 1 << (many - 1 - number)
        left = left ^ bit
        before[number] = done
        behind[number] = left
        done = done | bit
    return before, behind


def masks_on_axes(points):
    """Return the masks of what stands before and behind each point in the order of the x-keys, and of the y-keys."""
    numbers = list(range(len(points)))
    left, right = masks_around(sorted(numbers, key=lambda number: points[number]))
    below, above = masks_around(sorted(numbers, key=lambda number: y_key(points[number])))
    return left, right, below, above


def rows_by_masks(points):
    """Return the rows of points, all of which are divided at the first one, and their parts likewise.

    A mask is divided at once, however many points it has; so the time does not hang on how deep the tree is.
    """
    many = len(points)
    left, right, below, above = masks_on_axes(points)
    # The mask of the point with a number, and of all in its parts; the last one is that of empty parts.
    masks = [(1 << many) - 1] + [0] * many
    rows = []
    for number in range(many):
        low = masks[number] & left[number]
        high = masks[number] & right[number]
        row = []
        for part in (low & below[number], high & below[number], low & above[number], high & above[number]):
            root = many - part.bit_length()
            masks[root] = part
            row.append(root)
        rows.append(row)
    return rows


def side_rows_by_masks(points):
    """Return the rows of points in the middle tree: the roots of two sides each, by masks as in `rows_by_masks`."""
    many = len(points)
    left, right, below, above = masks_on_axes(points)
    masks = [(1 << many) - 1] + [0] * many
    axes = [0] * (many + 1)
    rows = []
    for number in range(many):
        before, behind = (below, above) if axes[number] == 1 else (left, right)
        row = []
        for side in (masks[number] & before[number], masks[number] & behind[number]):
            root = many - side.bit_length()
            masks[root] = side
            axes[root] = 1 - axes[number]
            row.append(root)
        rows.append(row)
    return rows


def quarter_of_rows(points, rows, many):
    """Return the quarter tree of the first points, so many, for the rows of all."""
    trees = [None] * (len(points) + 1)
    # The points of the parts of a point come after it, so from the last one on all parts are made.
    for number in reversed(range(many)):
        part0, part1, part2, part3 = rows[number]
        trees[number] = (points[number], (trees[part0], trees[part1], trees[part2], trees[part3]))
    return trees[0]


def middle_of_rows(points, rows, many):
    """Return the middle tree of the first points, so many, for the rows of all."""
    trees = [None] * (len(points) + 1)
    for number in reversed(range(many)):
        low, high = rows[number]
        trees[number] = (points[number], trees[low], trees[high])
    return trees[0]


def grown(points):
    """Return the quarter tree that comes of inserting points in their order."""
    rows = rows_by_steps(points) if len(points) < MANY_POINTS else rows_by_masks(points)
    return quarter_of_rows(points, rows, len(points))
