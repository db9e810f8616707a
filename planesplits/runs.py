"""Stretches: the rows of neighbouring codes of the places in a box, and the codes that come next in it.

A box is a tuple (x, y, x2, y2) of ends that all lie in the square.
"""

from planesplits.squares import (
    WHOLE, cell_at, cell_of_place, code_at, codes_of, four_cells, is_in_box, meets_box, part_within, place_at,
    places_of,
)


def count_fitting(low, high, span, one, other):
    """Return for how many multiples of a span both it and one, and it and other, lie from `low` to `high`."""
    last = (high - max(one, other)) // span
    first = -((min(one, other) - low) // span)
    return max(0, last - first + 1)


def count_joined(box, up, figure):
    """Return how many codes end with a figure and then as many times 3 as `up`, and lie in a box with the next one.

    These are the last places of the parts with this number, and the first ones of the next parts of the same cells.
    """
    side = 1 << up
    many = 1
    for axis in (0, 1):
        end = ((figure >> axis & 1) + 1) * side - 1
        start = (figure + 1 >> axis & 1) * side
        many *= count_fitting(box[axis], box[axis + 2], 2 * side, end, start)
    return many


def count_runs(figures, box):
    """Return how many stretches a box has: one for each place, but for those whose next code lies in it, too."""
    places = (box[2] - box[0] + 1) * (box[3] - box[1] + 1)
    return places - sum([count_joined(box, up, figure) for up in range(figures) for figure in (0, 1, 2)])


def runs_of(figures, box):
    """Return the ascending list of the stretches (first, last) of a box."""
    runs = []
    pile = [WHOLE]
    while pile:
        cell = pile.pop()
        if not meets_box(figures, cell, box):
            continue
        least, greatest = places_of(figures, cell)
        if not is_in_box(least, box) or not is_in_box(greatest, box):
            pile.extend(four_cells(cell)[::-1])
            continue
        first, last = codes_of(figures, cell)
        if runs and runs[-1][1] + 1 == first:
            first = runs.pop()[0]
        runs.append((first, last))
    return runs


def next_run_code(figures, box, code):
    """Return the least code, not less than a code, of a place in a box, None if there is none."""
    place = place_at(code)
    if is_in_box(place, box):
        return code
    # The greater codes are those of the later parts of the cells in which the place lies, smallest cells first.
    single = cell_of_place(figures, place)
    for level in reversed(range(figures)):
        cell = cell_at(figures, level, place)
        for part in four_cells(cell)[part_within(cell, single) + 1:]:
            if meets_box(figures, part, box):
                # Codes ascend with both coordinates, so the least one is at the corner of what both share.
                least = places_of(figures, part)[0]
                return code_at((max(least[0], box[0]), max(least[1], box[1])))
    return None
