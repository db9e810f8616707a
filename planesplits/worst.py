"""The greatest numbers of visits that searches can need, over all sets of points and all rectangles.

A STATE is kept as a number: 1 for the low end, 2 for the high end, 3 for both, 0 for none. The greatest numbers for a
part with so many points stand in a ROW: at 4 * s + o for the state s on the axis of its root, and o on the other one.
The functions of the interface check their arguments; the others expect valid ones.
"""

from planesplits.checks import check_number
from planesplits.errors import InvalidNumber
from planesplits.quarters import check_quarter, nodes_of

STATES = {"none": 0, "low": 1, "high": 2, "both": 3}
LOW = 1
HIGH = 2
MOST_ASKED = 10 ** 18
MOST_PLACED = 300
# The ends of the rectangles, and the bounds of the plane, for the points that are placed. Each point stands in the
# middle between two of these or of other points, at most nine times one within the other.
LOW_END = -1000000
HIGH_END = 1000000
FARTHEST = 1000000000
# The state of a side that is not visited.
NOT_VISITED = 4
# For quarter trees a number stands at 4 * x + y in a row, for the states x and y: the rows of None and of a leaf, and
# what a root with just one part, with each number, adds to the row of this part.
NO_ROW = (0, 0, 0, 0, 0, 0, 0, 0, 0, 0, 0, 0, 0, 0, 0, 0)
LEAF_ROW = (0, 1, 1, 1, 1, 1, 1, 1, 1, 1, 1, 1, 1, 1, 1, 1)
ADDED_ROWS = (
    (0, 0, 1, 1, 0, 0, 1, 1, 1, 1, 1, 1, 1, 1, 1, 1),
    (0, 0, 1, 1, 1, 1, 1, 1, 0, 0, 1, 1, 1, 1, 1, 1),
    (0, 1, 0, 1, 0, 1, 0, 1, 1, 1, 1, 1, 1, 1, 1, 1),
    (0, 1, 0, 1, 1, 1, 1, 1, 0, 1, 0, 1, 1, 1, 1, 1),
)


def check_state(value, name):
    """Raise InvalidNumber with a name for what is no word for a state."""
    if not isinstance(value, str) or value not in STATES:
        raise InvalidNumber(name)


def next_row(low, high, is_counted):
    """Return the row of a part for the rows of its sides: of useless visits, or of those that count."""
    row = []
    for own in range(4):
        for other in range(4):
            # A root between the ends is useless if its other coordinate can lie beyond an end.
            here = 1 if is_counted or other > 0 else 0
            best = here + low[4 * other + (own & LOW)] + high[4 * other + (own & HIGH)]
            if own & LOW > 0:
                best = max(best, 1 + high[4 * other + own])
            if own & HIGH > 0:
                best = max(best, 1 + low[4 * other + own])
            row.append(best)
    if is_counted:
        # All points of a part that lies in the rectangle are counted at once.
        row[0] = 1
    return row


def rows_for(many, is_counted):
    """Return a dict by numbers of points with the rows of all parts that there are in a tree of so many points."""
    rows = {0: [0] * 16}
    for shift in reversed(range(many.bit_length())):
        # On each level the parts have these two numbers of points, or one of them.
        whole = many >> shift
        for size in (whole - 1, whole):
            if size not in rows:
                rows[size] = next_row(rows[size // 2], rows[size - 1 - size // 2], is_counted)
    return rows


def greatest(many, axis, x, y, is_counted):
    """Return the greatest number of useless visits, or of those that count, for any arguments."""
    check_number(many, 0, MOST_ASKED, "many")
    check_number(axis, 0, 1, "axis")
    check_state(x, "x")
    check_state(y, "y")
    own, other = (STATES[y], STATES[x]) if axis == 1 else (STATES[x], STATES[y])
    return rows_for(many, is_counted)[many][4 * own + other]


def most_useless(many, axis, x, y):
    """Return the greatest number of useless visits of middle_ranged for so many points."""
    return greatest(many, axis, x, y, False)


def most_counted(many, axis, x, y):
    """Return the greatest number of visits of middle_counted for so many points."""
    return greatest(many, axis, x, y, True)


def split_on_axis(rows, size, own, other):
    """Return the states of the low and the high side of a part for a split that reaches the greatest number."""
    low = rows[size // 2]
    high = rows[size - 1 - size // 2]
    best = rows[size][4 * own + other]
    if own & LOW > 0 and best == 1 + high[4 * other + own]:
        return NOT_VISITED, own
    if own & HIGH > 0 and best == 1 + low[4 * other + own]:
        return own, NOT_VISITED
    return own & LOW, own & HIGH


def middle_of(one, other):
    """Return the number in the middle of two others."""
    return (one + other) // 2


def place_of_split(bounds, own, low_state, high_state):
    """Return where in the bounds of a part its split lies, for the states of the part and its sides."""
    low, high = bounds
    if low_state == NOT_VISITED:
        return middle_of(low, LOW_END)
    if high_state == NOT_VISITED:
        return middle_of(HIGH_END, high)
    return middle_of(LOW_END if own & LOW > 0 else low, HIGH_END if own & HIGH > 0 else high)


def place_beyond(bounds, state):
    """Return a place in the bounds of a part that lies beyond one of the ends in it, if there is one."""
    low, high = bounds
    if state & LOW > 0:
        return middle_of(low, LOW_END)
    if state & HIGH > 0:
        return middle_of(HIGH_END, high)
    return middle_of(low, high)


def placed(many, x, y, rows):
    """Return a list of so many points for which a tree reaches the greatest number in its row."""
    points = []
    whole = (-FARTHEST, FARTHEST)
    # For each part its size, its axis, and the bounds and states on this axis and on the other one.
    pile = [(many, 0, whole, x, whole, y)]
    while pile:
        size, axis, bounds, own, bounds2, other = pile.pop()
        if size == 0:
            continue
        if NOT_VISITED in (own, other):
            # What is not visited needs points all the same, anywhere between its bounds.
            own = other = 0
        low_state, high_state = split_on_axis(rows, size, own, other)
        split = place_of_split(bounds, own, low_state, high_state)
        beside = place_beyond(bounds2, other)
        points.append((beside, split) if axis == 1 else (split, beside))
        half = size // 2
        pile.append((half, 1 - axis, bounds2, other, (bounds[0], split), low_state))
        pile.append((size - 1 - half, 1 - axis, bounds2, other, (split, bounds[1]), high_state))
    return points


def worst_case(many, x, y, is_counted):
    """Return points and a rectangle that need the greatest number of visits, for any arguments."""
    check_number(many, 0, MOST_PLACED, "many")
    check_state(x, "x")
    check_state(y, "y")
    states = (STATES[x], STATES[y])
    lows = [LOW_END if state & LOW > 0 else None for state in states]
    highs = [HIGH_END if state & HIGH > 0 else None for state in states]
    points = placed(many, states[0], states[1], rows_for(many, is_counted))
    return points, tuple(lows + highs)


def worst_useless(many, x, y):
    """Return so many points and a rectangle for which middle_ranged has the most useless visits."""
    return worst_case(many, x, y, False)


def worst_counted(many, x, y):
    """Return so many points and a rectangle for which middle_counted has the most visits."""
    return worst_case(many, x, y, True)


def row_above(row0, row1, row2, row3):
    """Return the row of a root for the rows of its four parts.

    The numbers of the parts 0 to 3 are called a, b, c and d, with the states on both axes: a31 is that of part 0 for
    "both" on the x-axis and "low" on the y-axis. For each pair of states of the root the ways are gone through: the
    split lies between the ends on both axes, on one, or on none; a part that is not visited does not stand there.
    """
    none, a01, a02, a03, a10, a11, a12, a13, a20, a21, a22, a23, a30, a31, a32, a33 = row0
    none, b01, b02, b03, b10, b11, b12, b13, b20, b21, b22, b23, b30, b31, b32, b33 = row1
    none, c01, c02, c03, c10, c11, c12, c13, c20, c21, c22, c23, c30, c31, c32, c33 = row2
    none, d01, d02, d03, d10, d11, d12, d13, d20, d21, d22, d23, d30, d31, d32, d33 = row3
    return (
        none,
        max(a01 + b01, 1 + c01 + d01),
        max(c02 + d02, 1 + a02 + b02),
        max(a01 + b01 + c02 + d02, 1 + c03 + d03, 1 + a03 + b03),
        max(a10 + c10, 1 + b10 + d10),
        max(a11 + b01 + c10, 1 + b11 + d10, 1 + c11 + d01, 1 + d11),
        max(a10 + c12 + d02, 1 + b10 + d12, 1 + a12 + b02, 1 + b12),
        max(a11 + b01 + c12 + d02, 1 + b11 + d12, 1 + c13 + d03, 1 + a13 + b03, 1 + d13, 1 + b13),
        max(b20 + d20, 1 + a20 + c20),
        max(a01 + b21 + d20, 1 + a21 + c20, 1 + c01 + d21, 1 + c21),
        max(b20 + c02 + d22, 1 + a20 + c22, 1 + a02 + b22, 1 + a22),
        max(a01 + b21 + c02 + d22, 1 + a21 + c22, 1 + c03 + d23, 1 + a03 + b23, 1 + c23, 1 + a23),
        max(a10 + c10 + b20 + d20, 1 + b30 + d30, 1 + a30 + c30),
        max(a11 + b21 + c10 + d20, 1 + b31 + d30, 1 + a31 + c30, 1 + c11 + d21, 1 + d31, 1 + c31),
        max(a10 + b20 + c12 + d22, 1 + b30 + d32, 1 + a30 + c32, 1 + a12 + b22, 1 + b32, 1 + a32),
        max(a11 + b21 + c12 + d22, 1 + b31 + d32, 1 + a31 + c32, 1 + c13 + d23, 1 + a13 + b23,
            1 + a33, 1 + b33, 1 + c33, 1 + d33),
    )


def most_in_quarter(tree, x, y):
    """Return the greatest number of useless visits of ranged, over all quarter trees with the shape of a tree."""
    check_quarter(tree)
    check_state(x, "x")
    check_state(y, "y")
    pile = [NO_ROW]
    # Backwards a node comes just behind its parts, the first one last: so theirs are the last rows on the pile.
    for point, parts in nodes_of(tree)[::-1]:
        numbers = [number for number in range(4) if parts[number] is not None]
        if not numbers:
            row = LEAF_ROW
        elif len(numbers) == 1:
            # Where there is an end on the side away from the part, the root can lie beyond it, with the part in the
            # same states. Otherwise the part, in its states, counts no less than a root without it.
            row = [part + added for part, added in zip(pile.pop(), ADDED_ROWS[numbers[0]])]
        else:
            row0, row1, row2, row3 = [NO_ROW if part is None else pile.pop() for part in parts]
            row = row_above(row0, row1, row2, row3)
        pile.append(row)
    return pile.pop()[4 * STATES[x] + STATES[y]]
