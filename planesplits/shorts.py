"""Codes of places, the stretches of codes in a rectangle, and short trees.

The functions of the interface check their arguments; the others expect valid ones.
"""

from planesplits.checks import MOST_POINTS, check_number, check_rectangle
from planesplits.errors import AlreadyThere, NotThere, TooLarge
from planesplits.forks import (
    check_short, grown_short, is_single, joined, ordered_by_code, put_back, short_fault, singles, way_short,
)
from planesplits.runs import count_runs, next_run_code, runs_of
from planesplits.squares import (
    box_of, cell_of_both, cell_of_place, check_cell, check_figures, check_place, check_places, code_at, codes_of,
    is_in_box, place_at,
)

MOST_STRETCHES = 1000


def code_of(figures, place):
    """Return the code of a place."""
    check_figures(figures)
    check_place(place, figures, "place")
    return code_at(place)


def check_code(value, figures):
    """Raise InvalidNumber for what is no code of a place of a square."""
    check_number(value, 0, (1 << 2 * figures) - 1, "code")


def place_of(figures, code):
    """Return the place with a code."""
    check_figures(figures)
    check_code(code, figures)
    return place_at(code)


def stretch_of(figures, square):
    """Return the tuple of the least and the greatest code of the places of a cell."""
    check_figures(figures)
    check_cell(square, figures)
    return codes_of(figures, square)


def common_cell(figures, place, other):
    """Return the cell of the greatest level in which two places lie."""
    check_figures(figures)
    check_place(place, figures, "place")
    check_place(other, figures, "other")
    return cell_of_both(figures, cell_of_place(figures, place), other)


def short_tree(figures, points):
    """Return the short tree of points."""
    check_figures(figures)
    check_places(points, figures)
    return grown_short(figures, ordered_by_code(points))


def is_short(figures, thing):
    """Return whether any object is a short tree of points of a square."""
    check_figures(figures)
    return short_fault(thing, figures) is None


def places_in(figures, tree):
    """Return the list of the points of a short tree in the order of their codes."""
    check_figures(figures)
    check_short(tree, figures)
    return singles(tree)


def put_short(figures, tree, point):
    """Return the short tree with a point more."""
    check_figures(figures)
    check_short(tree, figures)
    check_place(point, figures, "point")
    above, node = way_short(figures, tree, point)
    if node == point:
        raise AlreadyThere(point)
    if len(singles(tree)) == MOST_POINTS:
        raise TooLarge(MOST_POINTS)
    return put_back(above, point if node is None else joined(figures, node, point))


def taken_short(figures, tree, point):
    """Return the short tree without a point."""
    check_figures(figures)
    check_short(tree, figures)
    check_place(point, figures, "point")
    above, node = way_short(figures, tree, point)
    if node != point:
        raise NotThere(point)
    return put_back(above, None)


def way_to(figures, tree, place):
    """Return the list of the cells of forks, and at last perhaps the point, that are visited on the way to a place."""
    check_figures(figures)
    check_short(tree, figures)
    check_place(place, figures, "place")
    above, node = way_short(figures, tree, place)
    visited = [fork[0] for fork, part in above]
    if node is not None:
        visited.append(node if is_single(node) else node[0])
    return visited


def stretches(figures, rectangle):
    """Return the ascending list of the fewest tuples (first, last) that have just the codes in a rectangle."""
    check_figures(figures)
    check_rectangle(rectangle)
    box = box_of(figures, rectangle)
    if box is None:
        return []
    many = count_runs(figures, box)
    if many > MOST_STRETCHES:
        raise TooLarge(MOST_STRETCHES)
    # Codes ascend with both coordinates, so all of them lie between those of two corners.
    return [(code_at(box[:2]), code_at(box[2:]))] if many == 1 else runs_of(box)


def count_stretches(figures, rectangle):
    """Return how many stretches a rectangle has."""
    check_figures(figures)
    check_rectangle(rectangle)
    box = box_of(figures, rectangle)
    return 0 if box is None else count_runs(figures, box)


def next_code(figures, rectangle, code):
    """Return the least code, not less than a code, of a place in a rectangle, None if there is none."""
    check_figures(figures)
    check_rectangle(rectangle)
    check_code(code, figures)
    box = box_of(figures, rectangle)
    return None if box is None else next_run_code(box, code)


def jumped(figures, points, rectangle):
    """Return the lists of the points in a rectangle, and of all that are visited, by a search in the list of codes."""
    check_figures(figures)
    check_places(points, figures)
    check_rectangle(rectangle)
    box = box_of(figures, rectangle)
    found = []
    visited = []
    # The corner has the least code of all places in the box, as codes ascend with both coordinates.
    least = None if box is None else code_at(box[:2])
    for code, point in sorted([(code_at(point), point) for point in points]):
        if least is None:
            break
        if code < least:
            continue
        visited.append(point)
        if is_in_box(point, box):
            found.append(point)
            least = code + 1
        else:
            least = next_run_code(box, code)
    return found, visited
