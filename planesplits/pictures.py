"""Black and white pictures: a square is split in four again and again, until each cell has one colour.

The functions of the interface check their arguments; the others expect valid ones.
"""

from planesplits.borders import count_regions, seams_of, sides_of_spots
from planesplits.checks import MOST_POINTS, check_number, check_rectangle
from planesplits.errors import InvalidPoints, InvalidText, Mismatch, TooLarge
from planesplits.fitting import least_moved
from planesplits.squares import MOST_FIGURES, box_of, check_figures, check_place, is_place, shared_out
from planesplits.tallies import count_deeper, count_free, packed_row
from planesplits.tiles import (
    MOST_NODES, check_picture, common, counts_of, inverted, made, moved_by, noted, picture_fault, placed_anew,
    small_enough,
)

MOST_FITTED = 4
MOST_WRITTEN = 6
MOST_SPLIT = 60
# For fewer tuples it is quicker to count figure by figure, and for twice as many if there are fewer figures.
MANY_SPLIT = 10
# The parts of the new picture, by their numbers in the old one.
TURNED_LEFT = (2, 0, 3, 1)
MIRRORED = (1, 0, 3, 2)


def check_square_and_picture(figures, picture):
    """Raise InvalidNumber for what is no square, InvalidTree for what is no picture of it."""
    check_figures(figures)
    check_picture(picture, figures)


def check_both(figures, one, other):
    """Raise InvalidNumber for what is no square, InvalidTree for what are not two pictures of it."""
    check_square_and_picture(figures, one)
    check_picture(other, figures)


def check_painted(value, figures):
    """Raise Mismatch for what is no list or tuple of few things, InvalidPoints for those that are no places."""
    if not isinstance(value, (list, tuple)) or len(value) > MOST_POINTS:
        raise Mismatch("places")
    seen = set()
    for index, entry in enumerate(value):
        # What is no place may be unhashable, so it must not be looked up.
        if not is_place(entry, figures) or entry in seen:
            raise InvalidPoints(index)
        seen.add(entry)


def paint(figures, level, places, tuples):
    """Return the picture, in a cell of a level, of the places in it; note what is made in a list of tuples."""
    if not places:
        return 0
    if level == figures:
        return 1
    parts = shared_out(figures, level, places)
    return noted(tuple([paint(figures, level + 1, part, tuples) for part in parts]), tuples)


def painted(figures, places):
    """Return the picture in which just some places are black."""
    check_figures(figures)
    check_painted(places, figures)
    return paint(figures, 0, places, [])


def is_picture(figures, thing):
    """Return whether any object is a picture of a square."""
    check_figures(figures)
    return picture_fault(thing, figures) is None


def colour_at(figures, picture, place):
    """Return 1 if a place is black, otherwise 0."""
    check_square_and_picture(figures, picture)
    check_place(place, figures, "place")
    x, y = place
    shift = figures
    while isinstance(picture, tuple):
        shift -= 1
        picture = picture[(x >> shift & 1) + 2 * (y >> shift & 1)]
    return picture


def both(figures, one, other):
    """Return the picture in which just those places are black that are so in both."""
    check_both(figures, one, other)
    return small_enough(common(one, other, 1))


def either(figures, one, other):
    """Return the picture in which just those places are black that are so in one at least."""
    check_both(figures, one, other)
    return small_enough(common(one, other, 0))


def without(figures, one, other):
    """Return the picture in which just those places are black that are so in the first one, but not in the other."""
    check_both(figures, one, other)
    return small_enough(common(one, inverted(other), 1))


def opposite(figures, picture):
    """Return the picture in which just those places are black that are not."""
    check_square_and_picture(figures, picture)
    return inverted(picture)


def turned_left(figures, picture):
    """Return the picture in which the place (x, y) comes to (last - y, x)."""
    check_square_and_picture(figures, picture)
    return placed_anew(picture, TURNED_LEFT)


def mirrored(figures, picture):
    """Return the picture in which the place (x, y) comes to (last - x, y)."""
    check_square_and_picture(figures, picture)
    return placed_anew(picture, MIRRORED)


def shifted(figures, picture, dx, dy):
    """Return the picture in which the place (x, y) comes to (x + dx, y + dy), if that lies in the square."""
    check_square_and_picture(figures, picture)
    side = 1 << figures
    check_number(dx, -side, side, "dx")
    check_number(dy, -side, side, "dy")
    return small_enough(moved_by(figures, picture, dx, dy))


def area(figures, picture):
    """Return how many places are black."""
    check_square_and_picture(figures, picture)
    sides, with_numbers = sides_of_spots(figures, picture)
    return sum([side * side for side in sides])


def edge(figures, picture):
    """Return how many sides of black places are not sides of another black place."""
    check_square_and_picture(figures, picture)
    sides, with_numbers = sides_of_spots(figures, picture)
    return 4 * sum(sides) - 2 * sum([length for one, other, length in seams_of(figures, with_numbers)])


def regions(figures, picture):
    """Return into how many parts the black places fall."""
    check_square_and_picture(figures, picture)
    sides, with_numbers = sides_of_spots(figures, picture)
    return count_regions(len(sides) - 1, seams_of(figures, with_numbers))


def cells_of(figures, picture):
    """Return how many nodes are 1, 0, tuples."""
    check_square_and_picture(figures, picture)
    return counts_of(picture)


def inside_on_axis(low, high, shift):
    """Return how many of the rows of a length, a power of two with a shift, lie in the places from `low` to `high`."""
    return max(0, (high + 1 >> shift) - (low + (1 << shift) - 1 >> shift))


def cells_of_box(figures, box):
    """Return how many nodes of the picture of a box of a square are 1, 0, tuples."""
    x, y, x2, y2 = box
    # All cells of the level before, wherever they lie, that lie in the box, and that are split.
    inside = 0
    black = 0
    white = 0
    split = 0
    split_before = 0
    for level in range(figures + 1):
        shift = figures - level
        inside_now = inside_on_axis(x, x2, shift) * inside_on_axis(y, y2, shift)
        met = ((x2 >> shift) - (x >> shift) + 1) * ((y2 >> shift) - (y >> shift) + 1)
        black += inside_now - 4 * inside
        if level > 0:
            # Of the parts of split cells those that the box does not meet are white.
            white += 4 * split_before - (met - 4 * inside)
        split_before = met - inside_now
        split += split_before
        inside = inside_now
    return black, white, split


def box_cells(figures, rectangle):
    """Return how many nodes of the picture of a rectangle are 1, 0, tuples, however many it has."""
    check_figures(figures)
    check_rectangle(rectangle)
    box = box_of(figures, rectangle)
    return (0, 1, 0) if box is None else cells_of_box(figures, box)


def picture_of_box(side, x, y, x2, y2):
    """Return the picture, in a square of a side, of the places with coordinates from x to x2 and from y to y2."""
    if x >= side or y >= side or x2 < 0 or y2 < 0:
        return 0
    if x <= 0 and y <= 0 and x2 >= side - 1 and y2 >= side - 1:
        return 1
    half = side // 2
    return made(tuple([picture_of_box(half, x - a, y - b, x2 - a, y2 - b) for b in (0, half) for a in (0, half)]))


def box_picture(figures, rectangle):
    """Return the picture in which just the places in a rectangle are black."""
    if sum(box_cells(figures, rectangle)) > MOST_NODES:
        raise TooLarge(MOST_NODES)
    box = box_of(figures, rectangle)
    if box is None:
        return 0
    x, y, x2, y2 = box
    return picture_of_box(1 << figures, x, y, x2, y2)


def best_shift(figures, picture):
    """Return the least tuple (nodes, dx, dy) over all moves by which no black place comes out of the square."""
    check_number(figures, 0, MOST_FITTED, "figures")
    check_picture(picture, figures)
    if isinstance(picture, tuple):
        return least_moved(text_rows(picture, 1 << figures))
    side = 1 << figures
    return (1, 0, 0) if picture == 1 else (1, -side, -side)


def text_rows(picture, side):
    """Return the list of the rows of a picture in a square of a side, as strings."""
    if not isinstance(picture, tuple):
        return [("#" if picture == 1 else ".") * side] * side
    rows0, rows1, rows2, rows3 = [text_rows(part, side // 2) for part in picture]
    return [a + b for a, b in zip(rows0 + rows2, rows1 + rows3)]


def rows_of(figures, picture):
    """Return the list of the rows, as strings with "#" for black places and "." for others."""
    check_number(figures, 0, MOST_WRITTEN, "figures")
    check_picture(picture, figures)
    return text_rows(picture, 1 << figures)


def check_rows(value):
    """Raise Mismatch for what are not 1, 2, 4, .. or 64 rows, InvalidText for the first entry that is no such row."""
    if not isinstance(value, (list, tuple)) or len(value) not in [1 << k for k in range(MOST_WRITTEN + 1)]:
        raise Mismatch("rows")
    for index, row in enumerate(value):
        if not isinstance(row, str) or len(row) != len(value) or row.strip("#.") != "":
            raise InvalidText(index)


def read_rows(rows):
    """Return the tuple (figures, picture) of a picture for its rows."""
    check_rows(rows)
    cells = [[1 if sign == "#" else 0 for sign in row] for row in rows]
    while len(cells) > 1:
        # Each two neighbours in each two neighbouring rows are the parts of a picture.
        cells = [[made(four) for four in zip(low[::2], low[1::2], high[::2], high[1::2])]
                 for low, high in zip(cells[::2], cells[1::2])]
    return len(rows).bit_length() - 1, small_enough(cells[0][0])


def count_pictures(figures, split):
    """Return how many pictures of a square have just so many nodes that are tuples."""
    check_number(figures, 0, MOST_FIGURES, "figures")
    check_number(split, 0, MOST_SPLIT, "split")
    if split >= MANY_SPLIT:
        # A square with two figures has no more than five cells that can be split.
        if figures < 3:
            return 0
        if split <= figures:
            return count_free(split)
        if 2 * MANY_SPLIT <= split <= 2 * figures:
            return count_free(split) - count_deeper(figures, split)
    row, bits = packed_row(figures, split)
    return row >> bits * split
