"""Boxes and loose cells, said again in the words of the document, for small squares."""

from naive_squares import all_cells, has, is_cell, is_number, parts_of


def all_boxes(figures):
    side = range(2 ** figures)
    return [(x, y, x2, y2) for x in side for y in side for x2 in side if x <= x2 for y2 in side if y <= y2]


def side_of(figures, cell):
    return 2 ** (figures - cell[0])


def home(figures, box):
    x, y, x2, y2 = box
    size, middle = max(x2 - x, y2 - y), ((x + x2) // 2, (y + y2) // 2)
    return max([cell for cell in all_cells(figures) if side_of(figures, cell) >= size and has(figures, cell, middle)])


def loose(figures, cell):
    s = side_of(figures, cell)
    level, i, j = cell
    return (i * s - s // 2, j * s - s // 2, (i + 1) * s - 1 + (s + 1) // 2, (j + 1) * s - 1 + (s + 1) // 2)


def numbers_between(low, high, low2, high2):
    """Return the numbers from `low` to `high`, without None, that lie from low2 to high2, too."""
    return [k for k in range(low, high + 1) if (low2 is None or k >= low2) and (high2 is None or k <= high2)]


def meet(box, rectangle):
    """Return whether a rectangle without None and another one have a place in common."""
    return bool(numbers_between(box[0], box[2], rectangle[0], rectangle[2])
                and numbers_between(box[1], box[3], rectangle[1], rectangle[3]))


def free_moves(figures, box):
    """Return the moves on each axis by which the box stays in the square, with the same home."""
    x, y, x2, y2 = box
    moves = range(-2 ** figures, 2 ** figures + 1)
    squares = range(2 ** figures)
    at_home = home(figures, box)
    by_x = [a for a in moves if x + a in squares and x2 + a in squares
            and home(figures, (x + a, y, x2 + a, y2)) == at_home]
    by_y = [b for b in moves if y + b in squares and y2 + b in squares
            and home(figures, (x, y + b, x2, y2 + b)) == at_home]
    return (min(by_x), max(by_x), min(by_y), max(by_y))


def homes(figures, boxes):
    at = [home(figures, box) for box in boxes]
    return sorted([(cell, tuple([k for k in range(len(boxes)) if at[k] == cell])) for cell in set(at)])


def are_homes(figures, boxes, thing):
    if not isinstance(thing, (list, tuple)):
        return False
    for entry in thing:
        good = isinstance(entry, tuple) and len(entry) == 2 and is_cell(figures, entry[0])
        if not good or not isinstance(entry[1], tuple) or not all(is_number(number) for number in entry[1]):
            return False
    wanted = homes(figures, boxes)
    return len(thing) == len(wanted) and all(entry in wanted for entry in thing) and len(set(thing)) == len(thing)


def lies_within(cell, other):
    """Return whether a cell is a part, of any level, of another one, or the same."""
    return cell[0] >= other[0] and (other[0], cell[1] >> cell[0] - other[0], cell[2] >> cell[0] - other[0]) == other


def tree(figures, boxes):
    at = [home(figures, box) for box in boxes]
    return sorted([cell for cell in all_cells(figures) if any(lies_within(one, cell) for one in at)])


def searched(figures, boxes, rectangle):
    cells = tree(figures, boxes)
    return look(figures, cells, (0, 0, 0), rectangle) if cells else []


def look(figures, cells, cell, rectangle):
    visited = [cell]
    for part in parts_of(cell):
        if part in cells and meet(loose(figures, part), rectangle):
            visited += look(figures, cells, part, rectangle)
    return visited


def idle(figures, boxes, rectangle):
    busy = [home(figures, box) for box in boxes if meet(box, rectangle)]
    return [cell for cell in searched(figures, boxes, rectangle) if cell not in busy]


def cells_met(figures, level, rectangle):
    return len([cell for cell in all_cells(figures) if cell[0] == level and meet(loose(figures, cell), rectangle)])
