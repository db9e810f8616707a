"""Cell trees: a square is split in four again and again, until no cell has more points than a cap.

Nobody makes these trees: a cell is split just if it has more points than the cap.
"""

from planesplits.checks import check_number
from planesplits.errors import Mismatch
from planesplits.squares import (
    WHOLE, cell_at, check_cap, check_cell, check_figures, check_place, check_places, code_at, common_level, four_cells,
    is_cell, is_place, places_of, shared_out,
)


def check_all(figures, cap, points):
    """Raise what is to be raised for a square, a cap and points."""
    check_figures(figures)
    check_cap(cap)
    check_places(points, figures)


def rows_of_leaves(figures, cap, points):
    """Return the list of tuples (leaf, list of its points ascending) in reading order."""
    rows = []
    pile = [(WHOLE, sorted(points))]
    while pile:
        cell, inside = pile.pop()
        if len(inside) <= cap:
            rows.append((cell, inside))
        else:
            parts = list(zip(four_cells(cell), shared_out(figures, cell[0], inside)))
            pile.extend(parts[::-1])
    return rows


def cells_over(figures, cap, points):
    """Return the list of the split cells in reading order.

    The codes of a cell's places stand in one row. So it is split just if one of its points and the one that stands
    `cap` places further on, in the order of their codes, both lie in it.
    """
    cells = []
    rows = sorted([(code_at(point), point) for point in points])
    for index in range(len(rows) - cap):
        code, point = rows[index]
        deepest = common_level(figures, code, rows[index + cap][0])
        # The cells in which the point before this one lies, too, have come with that one.
        known = common_level(figures, code, rows[index - 1][0]) if index > 0 else -1
        cells.extend([cell_at(figures, level, point) for level in range(known + 1, deepest + 1)])
    return cells


def cells_at_cap(figures, cap, points, place, away):
    """Return the list of the cells with one place, but not another, that have just as many points as the cap."""
    cells = []
    inside = points
    for level in range(figures):
        cell = cell_at(figures, level, place)
        inside = [point for point in inside if cell_at(figures, level, point) == cell]
        if len(inside) == cap and cell_at(figures, level, away) != cell:
            cells.append(cell)
    return cells


def leaves(figures, cap, points):
    """Return the list of tuples (leaf, list of its points ascending) in reading order."""
    check_all(figures, cap, points)
    return rows_of_leaves(figures, cap, points)


def split_cells(figures, cap, points):
    """Return the list of the split cells in reading order."""
    check_all(figures, cap, points)
    return cells_over(figures, cap, points)


def leaf_at(figures, cap, points, place):
    """Return the leaf in which a place lies."""
    check_all(figures, cap, points)
    check_place(place, figures, "place")
    level = 0
    inside = points
    while len(inside) > cap:
        level += 1
        cell = cell_at(figures, level, place)
        inside = [point for point in inside if cell_at(figures, level, point) == cell]
    return cell_at(figures, level, place)


def levels_split(figures, cap, points):
    """Return the list of how many cells are split on each level from 0 to figures - 1."""
    check_all(figures, cap, points)
    counts = [0] * figures
    for cell in cells_over(figures, cap, points):
        counts[cell[0]] += 1
    return counts


def moved(figures, cap, points, index, place):
    """Return the lists of the cells that are split only behind a move, and of those only ahead of it."""
    check_all(figures, cap, points)
    check_number(index, 0, len(points) - 1, "index")
    others = [point for number, point in enumerate(points) if number != index]
    if not is_place(place, figures) or place in others:
        raise Mismatch("place")
    # The point alone decides on cells that have as many of the others as the cap; each lies in the one before it.
    old = points[index]
    return cells_at_cap(figures, cap, others, place, old), cells_at_cap(figures, cap, others, old, place)


def are_split(figures, cap, points, cells):
    """Return whether any object is a list or tuple of just the split cells, each once, in any order."""
    check_all(figures, cap, points)
    if not isinstance(cells, (list, tuple)):
        return False
    # What is no cell may be unhashable, so it must not be looked up; and no bool may stand for a number.
    if not all([is_cell(cell, figures) for cell in cells]):
        return False
    return sorted(cells) == sorted(cells_over(figures, cap, points))


def points_between(figures, square):
    """Return the tuple of the least and the greatest place of a cell."""
    check_figures(figures)
    check_cell(square, figures)
    return places_of(figures, square)
