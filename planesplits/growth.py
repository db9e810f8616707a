"""How points grow to the quarter tree that comes of inserting them in their order.

Each point has a row: the numbers of the points that are the roots of its parts 0 to 3. The number of all points,
which none of them has, stands for a part without a root.
"""

from planesplits.points import part_of, y_key

# For fewer points the steps are faster than the masks, also for those in a line.
MANY_POINTS = 32


def rows_by_steps(points):
    """Return the rows of points, for each of which one goes down from the root."""
    many = len(points)
    rows = []
    for number, point in enumerate(points):
        at = 0
        while at < number:
            row = rows[at]
            part = part_of(points[at], point)
            at = row[part]
        if number > 0:
            row[part] = number
        rows.append([many, many, many, many])
    return rows


def masks_around(numbers):
    """Return the masks of what stands before each number, and behind it, in a list of all numbers from 0 on.

    The least number of a mask is its highest bit.
    """
    many = len(numbers)
    before = [0] * many
    behind = [0] * many
    done = 0
    left = (1 << many) - 1
    for number in numbers:
        bit = 1 << (many - 1 - number)
        left = left ^ bit
        before[number] = done
        behind[number] = left
        done = done | bit
    return before, behind


def rows_by_masks(points):
    """Return the rows of points, all of which are divided at the first one, and their parts likewise.

    A mask is divided at once, however many points it has; so the time does not hang on how deep the tree is.
    """
    many = len(points)
    left, right = masks_around(sorted(range(many), key=lambda number: points[number]))
    below, above = masks_around(sorted(range(many), key=lambda number: y_key(points[number])))
    # The mask of the point with a number, and of all in its parts; the last one is that of empty parts.
    masks = [(1 << many) - 1] + [0] * many
    rows = []
    for number in range(many):
        low = masks[number] & left[number]
        high = masks[number] & right[number]
        row = []
        for part in (low & below[number], high & below[number], low & above[number], high & above[number]):
            root = many - part.bit_length()
            masks[root] = part
            row.append(root)
        rows.append(row)
    return rows


def grown(points):
    """Return the quarter tree that comes of inserting points in their order."""
    rows = rows_by_steps(points) if len(points) < MANY_POINTS else rows_by_masks(points)
    trees = [None] * (len(points) + 1)
    # The points of the parts of a point come after it, so from the last one on all parts are made.
    for number in reversed(range(len(points))):
        part0, part1, part2, part3 = rows[number]
        trees[number] = (points[number], (trees[part0], trees[part1], trees[part2], trees[part3]))
    return trees[0]
