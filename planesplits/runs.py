"""Stretches: the rows of neighbouring codes of the places in a box, and the codes that come next in it.

A box is a tuple (x, y, x2, y2) of ends that all lie in the square.
"""

from planesplits.squares import MOST_FIGURES, code_at, is_in_box, place_at

# No cell has so great a side.
NEVER = MOST_FIGURES + 1


def count_runs(figures, box):
    """Return how many stretches a box has: one for each place, but for those whose next code lies in it, too.

    Let a code end with 0, 1 or 2, and k times 3 behind it. From 0 and from 2 the next code leads, by x, over the line
    in the middle of a cell of side 2 ** (k + 1), and by y from the end of a piece of 2 ** k places to its start. From
    1 it leads over this line by y, and by x from the end of a piece of 2 ** (k + 1) places to its start. So for each k
    the lines inside the box are multiplied by the pieces that lie wholly in it.
    """
    x, y, x2, y2 = box
    runs = (x2 - x + 1) * (y2 - y + 1)
    before_x, before_y, behind_x, behind_y = x - 1, y - 1, x2 + 1, y2 + 1
    # The lines between all pieces of 2 ** k places that lie inside the box, and the pieces themselves.
    lines_x, lines_y = x2 - x, y2 - y
    pieces_y = lines_y + 1
    for k in range(figures):
        x, y, x2, y2 = x >> 1, y >> 1, x2 >> 1, y2 >> 1
        before_x, behind_x = before_x >> 1, behind_x >> 1
        longer_x = behind_x - before_x - 1
        # Pieces only become fewer.
        if longer_x <= 0 and pieces_y <= 0:
            break
        # Without the lines between pieces of twice the length those in the middle of such pieces are left.
        if pieces_y > 0:
            runs -= (lines_x - x2 + x) * pieces_y
        if longer_x > 0:
            runs -= (lines_y - y2 + y) * longer_x
        lines_x, lines_y = x2 - x, y2 - y
        before_y, behind_y = before_y >> 1, behind_y >> 1
        pieces_y = behind_y - before_y - 1
    return runs


def even_pieces(low, high):
    """Return the list of tuples (start, k) of the fewest pieces into which the numbers from `low` to `high` fall.

    A piece has 2 ** k numbers, and starts with a multiple of 2 ** k.
    """
    pieces = []
    while low <= high:
        k = (high - low + 1).bit_length() - 1
        if low > 0:
            k = min(k, (low & -low).bit_length() - 1)
        pieces.append((low, k))
        low += 1 << k
    return pieces


def steps_of_codes(many, step):
    """Return the list of the sums of some of so many numbers: a step, and each time four times the one before."""
    steps = [0]
    for k in range(many):
        steps = steps + [number + step for number in steps]
        step = 4 * step
    return steps


def runs_of_piece(first, a, b):
    """Return the list of the stretches (first, last) of a piece of 2 ** a by 2 ** b places with a first code."""
    if a > b:
        # A row of cells, each two of which have codes in one row.
        length = 2 << 2 * b
        starts = steps_of_codes(a - b - 1, 2 * length)
    else:
        # A column of cells, no two of which have; or one cell.
        length = 1 << 2 * a
        starts = steps_of_codes(b - a, 2 * length)
    return [(first + start, first + start + length - 1) for start in starts]


def runs_of(box):
    """Return the ascending list of the stretches (first, last) of a box."""
    x, y, x2, y2 = box
    # Boxes of two pieces of numbers, one on each axis.
    pieces = []
    columns = [(code_at((start, 0)), a) for start, a in even_pieces(x, x2)]
    for start, b in even_pieces(y, y2):
        code = code_at((0, start))
        for column, a in columns:
            pieces.extend(runs_of_piece(column + code, a, b))
    pieces = sorted(pieces)
    runs = []
    start, last = pieces[0]
    for first, final in pieces:
        if first > last + 1:
            runs.append((start, last))
            start = first
        last = final
    runs.append((start, last))
    return runs


def figures_apart(number, low, high):
    """Return how many last binary figures a number must lose, and two others too, to lie from the one to the other."""
    if number < low:
        return (number ^ low).bit_length()
    if number > high:
        return (number ^ high).bit_length()
    return 0


def least_code_behind(box, place, shift):
    """Return the least code in a box of the cells of a side, a power of two with a shift, behind that of a place.

    Only those are looked at that lie in one cell with it, one level up; None if the box meets none of them.
    """
    x, y, x2, y2 = box
    i, j = place[0] >> shift, place[1] >> shift
    for number in range((i & 1) + 2 * (j & 1) + 1, 4):
        i2 = (i & -2) + (number & 1)
        j2 = (j & -2) + (number >> 1)
        if x >> shift <= i2 <= x2 >> shift and y >> shift <= j2 <= y2 >> shift:
            # Codes ascend with both coordinates, so the least one is at the corner of what both share.
            return code_at((max(i2 << shift, x), max(j2 << shift, y)))
    return None


def next_free(number, high, shift):
    """Return the least k, not less than a shift, for which the second half of a piece of 2 ** (k + 1) numbers begins
    not behind `high`, if a number lies in its first half; NEVER if there is none.
    """
    # The number lies in first halves where it has the binary figure 0.
    filled = number | (1 << shift) - 1
    k = (~filled & filled + 1).bit_length() - 1
    return k if number >> k < high >> k else NEVER


def next_run_code(box, code):
    """Return the least code, not less than a code, of a place in a box, None if there is none."""
    place = place_at(code)
    if is_in_box(place, box):
        return code
    x, y, x2, y2 = box
    # The greater codes are those of the later parts of the cells in which the place lies, smallest cells first. The
    # first cell that the box meets has this shift.
    shift = max(figures_apart(place[0], x, x2), figures_apart(place[1], y, y2))
    found = least_code_behind(box, place, shift - 1)
    if found is not None:
        return found
    # From here on the box meets the part with the place, so it meets a later one if it reaches further on an axis.
    shift = min(next_free(place[0], x2, shift), next_free(place[1], y2, shift))
    return None if shift == NEVER else least_code_behind(box, place, shift)
