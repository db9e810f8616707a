"""Squares with places, the cells of which they are made, and the codes of places.

A square is told by its number of binary figures. The checks take any object; the others expect valid arguments.
"""

from planesplits.checks import check_number, check_points, is_integer, is_point
from planesplits.errors import InvalidPoints, Mismatch

MOST_FIGURES = 40
MOST_CAP = 500
WHOLE = (0, 0, 0)


def check_figures(value):
    """Raise InvalidNumber for what is no number of figures of a square."""
    check_number(value, 0, MOST_FIGURES, "figures")


def check_cap(value):
    """Raise InvalidNumber for what is no cap."""
    check_number(value, 1, MOST_CAP, "cap")


def is_place(value, figures):
    """Return whether any object is a place of a square."""
    if not is_point(value):
        return False
    side = 1 << figures
    return 0 <= value[0] < side and 0 <= value[1] < side


def check_place(value, figures, name):
    """Raise Mismatch with a name for what is no place of a square."""
    if not is_place(value, figures):
        raise Mismatch(name)


def check_places(value, figures):
    """Raise InvalidPoints for what are no points, and then for points that are not all in a square."""
    check_points(value)
    for index, point in enumerate(value):
        if not is_place(point, figures):
            raise InvalidPoints(index)


def is_cell(value, figures):
    """Return whether any object is a cell of a square."""
    if not isinstance(value, tuple) or len(value) != 3:
        return False
    if not all([is_integer(entry) for entry in value]):
        return False
    level, i, j = value
    if not 0 <= level <= figures:
        return False
    many = 1 << level
    return 0 <= i < many and 0 <= j < many


def check_cell(value, figures):
    """Raise Mismatch for what is no cell of a square."""
    if not is_cell(value, figures):
        raise Mismatch("square")


def cell_at(figures, level, place):
    """Return the cell of a level in which a place lies."""
    shift = figures - level
    return (level, place[0] >> shift, place[1] >> shift)


def cell_of_place(figures, place):
    """Return the cell that has just this place."""
    return (figures, place[0], place[1])


def four_cells(cell):
    """Return the list of the four cells of which a cell is made, from 0 to 3."""
    level, i, j = cell
    return [(level + 1, 2 * i + a, 2 * j + b) for b in (0, 1) for a in (0, 1)]


def lies_within(cell, other):
    """Return whether all places of a cell lie in another one, which can be the same."""
    deeper = cell[0] - other[0]
    return deeper >= 0 and cell[1] >> deeper == other[1] and cell[2] >> deeper == other[2]


def cell_of_both(figures, cell, place):
    """Return the cell of the greatest level in which both a cell and a place lie."""
    level, i, j = cell
    same, i2, j2 = cell_at(figures, level, place)
    # Both lie in one cell as soon as no figure is left in which they are unlike.
    up = ((i ^ i2) | (j ^ j2)).bit_length()
    return (level - up, i >> up, j >> up)


def part_within(cell, deeper):
    """Return which one of the four parts of a cell a deeper one in it lies in."""
    shift = deeper[0] - cell[0] - 1
    return (deeper[1] >> shift & 1) + 2 * (deeper[2] >> shift & 1)


def shared_out(figures, level, points):
    """Return the lists of the points in each of the four parts of the cell of a level in which all lie."""
    parts = [[], [], [], []]
    shift = figures - level - 1
    for point in points:
        parts[(point[0] >> shift & 1) + 2 * (point[1] >> shift & 1)].append(point)
    return parts


def code_at(place):
    """Return the code of a place."""
    x, y = place
    # The binary figures stand as far apart in a code as figures of base 4.
    return int(f"{x:b}", 4) + 2 * int(f"{y:b}", 4)


def common_level(figures, code, other):
    """Return the greatest level on which the places with two codes lie in one cell."""
    return figures - ((code ^ other).bit_length() + 1) // 2


def place_at(code):
    """Return the place with a code."""
    text = f"{code:b}".zfill(2 * MOST_FIGURES)
    return (int(text[1::2], 2), int(text[0::2], 2))


def codes_of(figures, cell):
    """Return the tuple of the least and the greatest code of the places of a cell."""
    shift = 2 * (figures - cell[0])
    first = code_at((cell[1], cell[2])) << shift
    return (first, first + (1 << shift) - 1)


def places_of(figures, cell):
    """Return the tuple of the least and the greatest place of a cell."""
    level, i, j = cell
    side = 1 << figures - level
    return ((i * side, j * side), (i * side + side - 1, j * side + side - 1))


def meets_box(figures, cell, box):
    """Return whether a cell and a box of the square have a place in common."""
    shift = figures - cell[0]
    x, y, x2, y2 = box
    return x >> shift <= cell[1] <= x2 >> shift and y >> shift <= cell[2] <= y2 >> shift


def is_in_box(place, box):
    """Return whether a place lies in a box."""
    return box[0] <= place[0] <= box[2] and box[1] <= place[1] <= box[3]


def box_of(figures, rectangle):
    """Return the tuple (x, y, x2, y2) of the part of a square that lies in a rectangle, None if there is none."""
    last = (1 << figures) - 1
    x, y, x2, y2 = rectangle
    x = 0 if x is None else max(0, x)
    y = 0 if y is None else max(0, y)
    x2 = last if x2 is None else min(last, x2)
    y2 = last if y2 is None else min(last, y2)
    return (x, y, x2, y2) if x <= x2 and y <= y2 else None
