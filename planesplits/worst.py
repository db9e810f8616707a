"""The greatest numbers of visits that searches can need, over all sets of points and all rectangles.

A STATE is kept as a number: 1 for the low end, 2 for the high end, 3 for both, 0 for none. The greatest numbers for a
part with so many points stand in a ROW: at 4 * s + o for the state s on the axis of its root, and o on the other one.
The functions of the interface check their arguments; the others expect valid ones.
"""

from planesplits.checks import check_number
from planesplits.errors import InvalidNumber
from planesplits.quarters import check_quarter, nodes_of

STATES = {"none": 0, "low": 1, "high": 2, "both": 3}
LOW = 1
HIGH = 2
MOST_ASKED = 10 ** 18
MOST_PLACED = 300
# The ends of the rectangles, and the bounds of the plane, for the points that are placed. Each point stands in the
# middle between two of these or of other points, at most nine times one within the other.
LOW_END = -1000000
HIGH_END = 1000000
FARTHEST = 1000000000
# For each state on an axis the ways in which a split can lie: whether it makes the root useless, and the states of the
# low and the high side. A side that is not visited has the state 4.
NOT_VISITED = 4
WAYS = (
    ((0, 0, 0),),
    ((0, 1, 0), (1, 4, 1)),
    ((0, 0, 2), (1, 2, 4)),
    ((0, 1, 2), (1, 4, 3), (1, 3, 4)),
)
# For quarter trees rows have 25 numbers, at 5 * x + y for the states x and y, as parts that are not visited count, too.
NO_PART = (0, 0, 0, 0, 0, 0, 0, 0, 0, 0, 0, 0, 0, 0, 0, 0, 0, 0, 0, 0, 0, 0, 0, 0, 0)
LEAF_ROW = (0, 1, 1, 1, 0, 1, 1, 1, 1, 0, 1, 1, 1, 1, 0, 1, 1, 1, 1, 0, 0, 0, 0, 0, 0)


def check_state(value, name):
    """Raise InvalidNumber with a name for what is no word for a state."""
    if not isinstance(value, str) or value not in STATES:
        raise InvalidNumber(name)


def next_row(low, high, is_counted):
    """Return the row of a part for the rows of its sides: of useless visits, or of those that count."""
    row = []
    for own in range(4):
        for other in range(4):
            # A root between the ends is useless if its other coordinate can lie beyond an end.
            here = 1 if is_counted or other > 0 else 0
            best = here + low[4 * other + (own & LOW)] + high[4 * other + (own & HIGH)]
            if own & LOW > 0:
                best = max(best, 1 + high[4 * other + own])
            if own & HIGH > 0:
                best = max(best, 1 + low[4 * other + own])
            row.append(best)
    if is_counted:
        # All points of a part that lies in the rectangle are counted at once.
        row[0] = 1
    return row


def rows_for(many, is_counted):
    """Return a dict by numbers of points with the rows of all parts that there are in a tree of so many points."""
    rows = {0: [0] * 16}
    for shift in reversed(range(many.bit_length())):
        # On each level the parts have these two numbers of points, or one of them.
        whole = many >> shift
        for size in (whole - 1, whole):
            if size not in rows:
                rows[size] = next_row(rows[size // 2], rows[size - 1 - size // 2], is_counted)
    return rows


def greatest(many, axis, x, y, is_counted):
    """Return the greatest number of useless visits, or of those that count, for any arguments."""
    check_number(many, 0, MOST_ASKED, "many")
    check_number(axis, 0, 1, "axis")
    check_state(x, "x")
    check_state(y, "y")
    own, other = (STATES[y], STATES[x]) if axis == 1 else (STATES[x], STATES[y])
    return rows_for(many, is_counted)[many][4 * own + other]


def most_useless(many, axis, x, y):
    """Return the greatest number of useless visits of middle_ranged for so many points."""
    return greatest(many, axis, x, y, False)


def most_counted(many, axis, x, y):
    """Return the greatest number of visits of middle_counted for so many points."""
    return greatest(many, axis, x, y, True)


def split_on_axis(rows, size, own, other):
    """Return the states of the low and the high side of a part for a split that reaches the greatest number."""
    low = rows[size // 2]
    high = rows[size - 1 - size // 2]
    best = rows[size][4 * own + other]
    if own & LOW > 0 and best == 1 + high[4 * other + own]:
        return NOT_VISITED, own
    if own & HIGH > 0 and best == 1 + low[4 * other + own]:
        return own, NOT_VISITED
    return own & LOW, own & HIGH


def middle_of(one, other):
    """Return the number in the middle of two others."""
    return (one + other) // 2


def place_of_split(bounds, own, low_state, high_state):
    """Return where in the bounds of a part its split lies, for the states of the part and its sides."""
    low, high = bounds
    if low_state == NOT_VISITED:
        return middle_of(low, LOW_END)
    if high_state == NOT_VISITED:
        return middle_of(HIGH_END, high)
    return middle_of(LOW_END if own & LOW > 0 else low, HIGH_END if own & HIGH > 0 else high)


def place_beyond(bounds, state):
    """Return a place in the bounds of a part that lies beyond one of the ends in it, if there is one."""
    low, high = bounds
    if state & LOW > 0:
        return middle_of(low, LOW_END)
    if state & HIGH > 0:
        return middle_of(HIGH_END, high)
    return middle_of(low, high)


def placed(many, x, y, rows):
    """Return a list of so many points for which a tree reaches the greatest number in its row."""
    points = []
    whole = (-FARTHEST, FARTHEST)
    # For each part its size, its axis, and the bounds and states on this axis and on the other one.
    pile = [(many, 0, whole, x, whole, y)]
    while pile:
        size, axis, bounds, own, bounds2, other = pile.pop()
        if size == 0:
            continue
        if NOT_VISITED in (own, other):
            # What is not visited needs points all the same, anywhere between its bounds.
            own = other = 0
        low_state, high_state = split_on_axis(rows, size, own, other)
        split = place_of_split(bounds, own, low_state, high_state)
        beside = place_beyond(bounds2, other)
        points.append((beside, split) if axis == 1 else (split, beside))
        half = size // 2
        pile.append((half, 1 - axis, bounds2, other, (bounds[0], split), low_state))
        pile.append((size - 1 - half, 1 - axis, bounds2, other, (split, bounds[1]), high_state))
    return points


def worst_case(many, x, y, is_counted):
    """Return points and a rectangle that need the greatest number of visits, for any arguments."""
    check_number(many, 0, MOST_PLACED, "many")
    check_state(x, "x")
    check_state(y, "y")
    states = (STATES[x], STATES[y])
    lows = [LOW_END if state & LOW > 0 else None for state in states]
    highs = [HIGH_END if state & HIGH > 0 else None for state in states]
    points = placed(many, states[0], states[1], rows_for(many, is_counted))
    return points, tuple(lows + highs)


def worst_useless(many, x, y):
    """Return so many points and a rectangle for which middle_ranged has the most useless visits."""
    return worst_case(many, x, y, False)


def worst_counted(many, x, y):
    """Return so many points and a rectangle for which middle_counted has the most visits."""
    return worst_case(many, x, y, True)


def ways_of_quarters():
    """Return a list of tuples (place in a row, ways): a way is 1 for a useless root, and the places of four parts."""
    table = []
    for x in range(4):
        for y in range(4):
            ways = []
            for useless_x, low_x, high_x in WAYS[x]:
                for useless_y, low_y, high_y in WAYS[y]:
                    places = [5 * part_x + part_y for part_y in (low_y, high_y) for part_x in (low_x, high_x)]
                    ways.append((useless_x | useless_y, places[0], places[1], places[2], places[3]))
            table.append((5 * x + y, ways))
    return table


def most_in_quarter(tree, x, y):
    """Return the greatest number of useless visits of ranged, over all quarter trees with the shape of a tree."""
    check_quarter(tree)
    check_state(x, "x")
    check_state(y, "y")
    table = ways_of_quarters()
    pile = []
    # Backwards a node comes just behind its parts, the first one last: so theirs are the last rows on the pile.
    for point, parts in nodes_of(tree)[::-1]:
        rows = [NO_PART if part is None else pile.pop() for part in parts]
        if rows == [NO_PART] * 4:
            pile.append(LEAF_ROW)
            continue
        row0, row1, row2, row3 = rows
        row = [0] * 25
        for at, ways in table:
            row[at] = max([useless + row0[part0] + row1[part1] + row2[part2] + row3[part3]
                           for useless, part0, part1, part2, part3 in ways])
        pile.append(row)
    return pile.pop()[5 * STATES[x] + STATES[y]] if pile else 0
