"""Loose cells: boxes live in cells that are about as large as they are, and that reach half a side further.

The functions of the interface check their arguments; the others expect valid ones.
"""

from planesplits.checks import check_number, check_rectangle, is_integer
from planesplits.errors import InvalidRectangle, Mismatch
from planesplits.squares import WHOLE, cell_at, check_cell, check_figures, four_cells, is_cell, is_place

MOST_BOXES = 500
MOST_ASKED = 10 ** 30


def is_box(value, figures):
    """Return whether any object is a box of a square."""
    if not isinstance(value, tuple) or len(value) != 4:
        return False
    if not is_place(value[:2], figures) or not is_place(value[2:], figures):
        return False
    return value[0] <= value[2] and value[1] <= value[3]


def check_box(value, figures):
    """Raise InvalidRectangle for what is no box of a square."""
    if not is_box(value, figures):
        raise InvalidRectangle(value)


def check_boxes(value, figures):
    """Raise Mismatch for what is no list or tuple of few things, InvalidRectangle for the first that is no box."""
    if not isinstance(value, (list, tuple)) or len(value) > MOST_BOXES:
        raise Mismatch("boxes")
    for entry in value:
        check_box(entry, figures)


def check_question(figures, level, width, height):
    """Raise InvalidNumber for what are no level of a square, or no width and height of its boxes."""
    check_figures(figures)
    check_number(level, 0, figures, "level")
    check_number(width, 0, (1 << figures) - 1, "width")
    check_number(height, 0, (1 << figures) - 1, "height")


def home_cell(figures, box):
    """Return the home of a box."""
    x, y, x2, y2 = box
    size = max(x2 - x, y2 - y)
    # The least side, a power of two, that is not less than the size.
    shift = (size - 1).bit_length() if size > 1 else 0
    return cell_at(figures, figures - shift, ((x + x2) // 2, (y + y2) // 2))


def loose_box(figures, cell):
    """Return the loose cell of a cell as a rectangle."""
    level, i, j = cell
    side = 1 << figures - level
    before = side // 2
    behind = side - 1 + (side + 1) // 2
    return (i * side - before, j * side - before, i * side + behind, j * side + behind)


def have_common(box, rectangle):
    """Return whether a rectangle without None and another one have a place in common."""
    x, y, x2, y2 = rectangle
    if x is not None and box[2] < x or x2 is not None and box[0] > x2:
        return False
    return not (y is not None and box[3] < y or y2 is not None and box[1] > y2)


def numbers_by_home(figures, boxes):
    """Return a dict by homes with the list of the numbers of the boxes that live there."""
    rows = {}
    for number, box in enumerate(boxes):
        rows.setdefault(home_cell(figures, box), []).append(number)
    return rows


def cells_above(cells):
    """Return a dict of True by some cells and all cells of which they are parts."""
    known = {}
    for cell in cells:
        level, i, j = cell
        while level >= 0 and (level, i, j) not in known:
            known[(level, i, j)] = True
            level, i, j = level - 1, i >> 1, j >> 1
    return known


def met_on_axis(figures, level, low, high):
    """Return the first and the last number in a row of cells of a level whose loose cells reach some places.

    These are the places from `low` to `high`, either of which can lack. If none reaches them, the first number is
    greater than the last one.
    """
    side = 1 << figures - level
    last = (1 << level) - 1
    # The loose cell of i ends at i * side + side - 1 + (side + 1) // 2, and begins at i * side - side // 2.
    first = 0 if low is None else max(0, -((side - 1 + (side + 1) // 2 - low) // side))
    return first, last if high is None else min(last, (high + side // 2) // side)


def cells_visited(figures, cells, rectangle):
    """Return the list of the cells of a tree, a dict, that are visited for a rectangle, in their order."""
    x, y, x2, y2 = rectangle
    ranges = [met_on_axis(figures, level, x, x2) + met_on_axis(figures, level, y, y2) for level in range(figures + 1)]
    visited = []
    pile = [WHOLE] if WHOLE in cells else []
    while pile:
        cell = pile.pop()
        visited.append(cell)
        for part in four_cells(cell)[::-1]:
            if part in cells:
                level, i, j = part
                first, last, first2, last2 = ranges[level]
                if first <= i <= last and first2 <= j <= last2:
                    pile.append(part)
    return visited


def home_of(figures, box):
    """Return the home of a box."""
    check_figures(figures)
    check_box(box, figures)
    return home_cell(figures, box)


def loose_cell(figures, square):
    """Return the loose cell of a cell as a rectangle."""
    check_figures(figures)
    check_cell(square, figures)
    return loose_box(figures, square)


def moves_along(figures, low, high, side):
    """Return the least and the greatest move on an axis of a box that keeps its middle in its cell of a side."""
    middle = (low + high) // 2
    start = middle // side * side
    last = (1 << figures) - 1
    return max(-low, start - middle), min(last - high, start + side - 1 - middle)


def free_moves(figures, box):
    """Return the tuple (dx, dx2, dy, dy2) of the moves by which a box stays in the square and keeps its home."""
    check_figures(figures)
    check_box(box, figures)
    side = 1 << figures - home_cell(figures, box)[0]
    return moves_along(figures, box[0], box[2], side) + moves_along(figures, box[1], box[3], side)


def homes(figures, boxes):
    """Return the ascending list of tuples (home, ascending tuple of the numbers of the boxes that live there)."""
    check_figures(figures)
    check_boxes(boxes, figures)
    return sorted([(cell, tuple(numbers)) for cell, numbers in numbers_by_home(figures, boxes).items()])


def is_home_row(value, figures):
    """Return whether any object is a tuple of a cell and a tuple of integers."""
    if not isinstance(value, tuple) or len(value) != 2 or not is_cell(value[0], figures):
        return False
    return isinstance(value[1], tuple) and all([is_integer(number) for number in value[1]])


def are_homes(figures, boxes, thing):
    """Return whether any object is a list or tuple of just the tuples of `homes`, each once, in any order."""
    rows = homes(figures, boxes)
    if not isinstance(thing, (list, tuple)) or len(thing) != len(rows):
        return False
    # Only what has the right form can be put in order; and no bool may stand for a number.
    return all([is_home_row(entry, figures) for entry in thing]) and sorted(thing) == rows


def loose_tree(figures, boxes):
    """Return the ascending list of the cells of the loose tree."""
    check_figures(figures)
    check_boxes(boxes, figures)
    return sorted(cells_above(list(numbers_by_home(figures, boxes))))


def most_in_tree(figures, many):
    """Return how many cells the loose tree of so many boxes can have at most."""
    check_figures(figures)
    check_number(many, 0, MOST_ASKED, "many")
    return sum([min(1 << 2 * level, many) for level in range(figures + 1)])


def meeting(figures, boxes, rectangle):
    """Return the ascending list of the numbers of the boxes that meet a rectangle."""
    check_figures(figures)
    check_boxes(boxes, figures)
    check_rectangle(rectangle)
    return [number for number, box in enumerate(boxes) if have_common(box, rectangle)]


def searched(figures, boxes, rectangle):
    """Return the list of the cells of the loose tree that are visited for a rectangle, in their order."""
    check_figures(figures)
    check_boxes(boxes, figures)
    check_rectangle(rectangle)
    return cells_visited(figures, cells_above(list(numbers_by_home(figures, boxes))), rectangle)


def idle(figures, boxes, rectangle):
    """Return the list of those visited cells none of whose own boxes meets the rectangle."""
    met = meeting(figures, boxes, rectangle)
    rows = numbers_by_home(figures, boxes)
    busy = {home_cell(figures, boxes[number]): True for number in met}
    return [cell for cell in cells_visited(figures, cells_above(list(rows)), rectangle) if cell not in busy]


def cells_met(figures, level, rectangle):
    """Return how many cells of a level have loose cells that have a place in common with a rectangle."""
    check_figures(figures)
    check_number(level, 0, figures, "level")
    check_rectangle(rectangle)
    x, y, x2, y2 = rectangle
    first, last = met_on_axis(figures, level, x, x2)
    first2, last2 = met_on_axis(figures, level, y, y2)
    return max(0, last - first + 1) * max(0, last2 - first2 + 1)


def most_on_axis(figures, level, length):
    """Return how many cells in a row of a level a box of a length can meet at most."""
    side = 1 << figures - level
    return min(1 << level, 1 + (length + 2 * side - 1) // side)


def least_on_axis(figures, level, length):
    """Return how many cells in a row of a level a box of a length must meet at least."""
    side = 1 << figures - level
    return min(1 << level, 1 + (length + side // 2) // side)


def most_met(figures, level, width, height):
    """Return the greatest number of cells of a level that boxes of a width and height meet."""
    check_question(figures, level, width, height)
    return most_on_axis(figures, level, width) * most_on_axis(figures, level, height)


def least_met(figures, level, width, height):
    """Return the least number of cells of a level that boxes of a width and height meet."""
    check_question(figures, level, width, height)
    return least_on_axis(figures, level, width) * least_on_axis(figures, level, height)


def reaching_on_axis(figures, level, length):
    """Return the ends on an axis of a box of a length that meets as many cells in a row of a level as can be."""
    side = 1 << figures - level
    farthest = (1 << figures) - 1 - length
    # A box that begins where a loose cell ends meets this one with a single place, and so the most behind it. Where
    # the square is too small for the first loose cell and the box, the box can begin as far on as it fits in.
    low = min(farthest, side - 1 + (side + 1) // 2)
    return low, low + length


def reaching(figures, level, width, height):
    """Return a box of a width and height that meets the greatest number of cells of a level."""
    check_question(figures, level, width, height)
    x, x2 = reaching_on_axis(figures, level, width)
    y, y2 = reaching_on_axis(figures, level, height)
    return (x, y, x2, y2)
