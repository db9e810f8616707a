"""Values for the tests: those that are something else than is wanted, and trees of known forms."""

from planesplits import errors, points, quarters
from planesplits.forest import Forest
from planesplits.live import Index

LEAF = (None, None, None, None)
FAR = 10 ** 30
FAR_END = 10 ** 31
MANY_FIGURES = 10 ** 5000

# What is neither a point, nor points, nor a rectangle, nor a tree, nor a number.
NOTHING_WANTED = [
    True, False, "", "(0, 0)", b"", b"ab", 1j, ..., NotImplemented, {}, {(0, 0): True}, {(0, 0)}, set(),
    frozenset([(0, 0)]), range(2), range(4), bytearray(b"ab"), memoryview(b"ab"), iter(()), object(), int, len,
    errors, errors.InvalidPoint, errors.InvalidPoint(3), points.quarter, quarters.built, slice(2), Forest,
    Forest([(0, 0)]), Index(1, 1),
]

NO_POINTS = NOTHING_WANTED + [
    None, 0, 5, MANY_FIGURES, [], [0, 0], (), (0,), (0, 0, 0), (0, 0, 0, 0), ((0, 0),), ((0, 0), (0, 0)),
    (True, 0), (0, True), (False, False), (None, 0), (0, None), ("0", 0), (0, "0"), (0, [0]), ([0], 0), ({}, 0),
    (FAR + 1, 0), (0, FAR + 1), (-FAR - 1, 0), (0, -FAR - 1), (MANY_FIGURES, 0), (0, -MANY_FIGURES),
    (0, 1j), ((0, 0), LEAF), {0: 0, 1: 0},
]

NO_RECTANGLES = NOTHING_WANTED + [
    None, 0, 5, [], [0, 0, 1, 1], [None, None, None, None], (), (0, 0), (0, 0, 1), (0, 0, 1, 1, 1),
    (None, None, None), (True, 0, 1, 1), (0, False, 1, 1), (0, 0, True, 1), (0, 0, 1, True), ("", 0, 1, 1),
    (0, [], 1, 1), (0, 0, {}, 1), (0, 0, 1, b""), (1, 0, 0, 1), (0, 1, 1, 0), (1, None, 0, None),
    (None, 1, None, 0), (FAR_END, 0, FAR_END - 1, 0), (-FAR_END - 1, 0, 1, 1), (0, -FAR_END - 1, 1, 1),
    (0, 0, FAR_END + 1, 1), (0, 0, 1, FAR_END + 1), (FAR_END + 1, None, None, None),
    (None, None, None, -FAR_END - 1), (0, 0, MANY_FIGURES, 1), ((0, 0), (1, 1)), (0, 0, 1, 1j),
]

# Tuples of the index and a value.
NO_POINT_LISTS = [(-1, value) for value in NOTHING_WANTED] + [
    (-1, None), (-1, 0), (-1, 7), (-1, [(k, 0) for k in range(501)]), (-1, tuple([(k, 0) for k in range(501)])),
    (-1, [None] * 501), (-1, [(0, 0)] * 501), (0, (0, 0)), (0, [None]), (0, [[]]), (0, [[0, 0]]), (0, ([0, 0],)),
    (0, [{}]), (0, [(0, 0, 0), (0, 0)]), (1, [(0, 0), (0, 0)]), (1, ((0, 0), (0, 0))), (1, [(0, 0), None, 5]),
    (1, [(0, 0), (True, 0)]), (1, [(1, 0), (True, 0)]), (2, [(0, 0), (1, 1), (1, 1), (0, 0)]),
    (2, [(0, 1), (1, 0), (0, 1)]), (1, [(0, 0), (0, FAR + 1), (0, 0)]), (2, [(0, 0), (1, 1), [2, 2], (1, 1)]),
    (499, [(k, 0) for k in range(499)] + [(0, 0)]), (499, [(k, 0) for k in range(499)] + [[]]),
]

NO_AXES = NOTHING_WANTED + [None, -1, 2, 10 ** 40, -(10 ** 40), MANY_FIGURES, (), [0], (0,), (0, 0), "0", "x", b"0"]


def node(point, *parts):
    """Return a node with the parts in the order of their numbers; the others are None."""
    return (point, (*parts, *LEAF[len(parts):]))


TREE = node((5, 5), node((1, 2)), node((7, 2), None, node((8, 1)), node((6, 3))), None, node((9, 9), node((8, 8))))

# Tuples of the path of the first fault and a value.
NO_TREES = [((), value) for value in NOTHING_WANTED] + [
    ((), 0), ((), 5), ((), MANY_FIGURES), ((), []), ((), ()), ((), (0, 0)), ((), (None, LEAF)),
    ((), [(0, 0), LEAF]), ((), ((0, 0), list(LEAF))), ((), ([0, 0], LEAF)), ((), ((0, 0),)),
    ((), ((0, 0), LEAF, LEAF)), ((), ((0, 0), None)), ((), ((0, 0), LEAF[1:])), ((), ((0, 0), LEAF + (None,))),
    ((), ((0, 0), ())), ((), ((True, 0), LEAF)), ((), ((0, FAR + 1), LEAF)), ((), ((0, 0, 0), LEAF)),
    ((), ((0, 0), None, None, None, None)), ((), ((0, 0), None, None)), ((), LEAF), ((), (LEAF, (0, 0))),
    ((0,), node((0, 0), 0)), ((1,), node((0, 0), None, False)), ((2,), node((0, 0), None, None, [])),
    ((3,), node((0, 0), None, None, None, ())), ((3,), node((0, 0), None, None, None, (1, 1))),
    ((0,), node((0, 0), node((0, 0)))), ((3,), node((0, 0), None, None, None, node((0, 0)))),
    ((0,), node((0, 0), node((1, 1)))), ((1,), node((0, 0), None, node((1, 1)))),
    ((2,), node((0, 0), None, None, node((1, 1)))), ((3,), node((0, 0), None, None, None, node((1, -1)))),
    ((0,), node((0, 0), node((0, 1)))), ((3,), node((0, 0), None, None, None, node((0, -1)))),
    ((0,), node((0, 0), node((1, 0)))), ((1,), node((0, 0), None, node((1, 0)))),
    ((2,), node((0, 0), None, None, node((0, 1)))),
    ((1,), node((0, 0), node((-1, -1)), node((0, -1)), node((5, 5)))),
    ((0,), node((0, 0), "", node((0, -1)), [])), ((1, 2), node((0, 0), None, node((3, -3), None, None, []), 5)),
    ((3, 0), node((0, 0), None, None, None, node((3, 3), node((-1, -1))))),
    ((3, 0), node((0, 0), None, None, None, node((3, 3), node((2, -1))))),
    ((3, 0), node((0, 0), None, None, None, node((3, 3), node((-1, 2))))),
    ((3, 0), node((0, 0), None, None, None, node((3, 3), node((0, 0))))),
    ((0, 3), node((0, 0), node((-3, -3), None, None, None, node((1, -1))))),
    ((0, 3), node((0, 0), node((-3, -3), None, None, None, node((-1, 1))))),
    ((3, 0, 3), node((0, 0), None, None, None, node((5, 5), node((2, 2), None, None, None, node((5, 5)))))),
    ((3, 0, 0), node((0, 0), None, None, None, node((5, 5), node((2, 2), node((0, 0)))))),
    ((3, 1), node((0, 0), None, None, None, node((3, 3), None, ((4, 1), LEAF[1:])))),
    ((3, 1), node((0, 0), None, None, None, node((3, 3), None, ((4, True), LEAF)))),
    ((0,), node((0, 0), node((-1, -1))[:1], node((-1, -1)))),
]


def line(many, step_x, step_y):
    """Return points in a line."""
    return [(k * step_x, k * step_y) for k in range(many)]


def stairs(many, step_x, step_y):
    """Return points that go by steps along the axes in turn."""
    return [((k + 1) // 2 * step_x, k // 2 * step_y) for k in range(many)]


def from_both_ends(points):
    """Return the first, the last, the second, the last but one, and so on."""
    rows = []
    for k in range((len(points) + 1) // 2):
        rows.append(points[k])
        if len(rows) < len(points):
            rows.append(points[-1 - k])
    return rows


def in_two_lines(many):
    """Return points that go away from (0, 0) on both sides by turns, so that the tree has two long arms."""
    return [((k + 1) // 2, (k + 1) // 2) if k % 2 == 1 else (-k // 2, -k // 2) for k in range(many)]


def chain(places):
    """Return the nested tuples of nodes for tuples (point, part), its part of the node before it."""
    tree = None
    part = 0
    for point, above in reversed(places):
        parts = [None] * 4
        parts[part] = tree
        tree = (point, tuple(parts))
        part = above
    return tree


# For each part a chain of points that lie in it for each other.
STEPS = [(-1, -1), (1, -1), (-1, 1), (1, 1)]


def long_chain(part, many):
    """Return a chain of so many nodes in which each part has one number."""
    step_x, step_y = STEPS[part]
    return chain([(point, part) for point in line(many, step_x, step_y)])


def side_chain(many):
    """Return a middle tree of points in a line, so many, each on the high side of the one before it."""
    tree = None
    for point in reversed(line(many, 1, 1)):
        tree = (point, None, tree)
    return tree


def side(point, low=None, high=None):
    """Return a node of a middle tree."""
    return (point, low, high)


# Tuples of the path of the first fault and a value.
NO_MIDDLE_TREES = [((), value) for value in NOTHING_WANTED] + [
    ((), 0), ((), 5), ((), MANY_FIGURES), ((), []), ((), ()), ((), (0, 0)), ((), (0, 0, 0)), ((), (None, None, None)),
    ((), [(0, 0), None, None]), ((), ([0, 0], None, None)), ((), ((0, 0),)), ((), ((0, 0), None)),
    ((), ((0, 0), None, None, None)), ((), ((0, 0), (None, None))), ((), ((0, 0), LEAF)), ((), node((0, 0))),
    ((), ((True, 0), None, None)), ((), ((0, FAR + 1), None, None)), ((), ((0, 0, 0), None, None)),
    ((0,), side((0, 0), 0)), ((1,), side((0, 0), None, False)), ((0,), side((0, 0), [], [])),
    ((1,), side((0, 0), None, ())), ((1,), side((0, 0), None, (1, 1))), ((0,), side((0, 0), side((0, 0)))),
    ((1,), side((0, 0), None, side((0, 0)))), ((0,), side((0, 0), side((1, 0)))),
    ((1,), side((0, 0), None, side((-1, 9)))), ((0,), side((0, 0), side((0, 1)))),
    ((1,), side((0, 0), None, side((0, -1)))), ((0,), side((0, 0), side((0, 1)), side((0, -1)))),
    ((0, 0), side((0, 0), side((-3, 5), side((-5, 6))))), ((0, 1), side((0, 0), side((-3, 5), None, side((-5, 4))))),
    ((0, 0), side((0, 0), side((-3, 5), side((-2, 5))))), ((0, 1), side((0, 0), side((-3, 5), None, side((-4, 5))))),
    ((0, 0), side((0, 0), side((-3, 5), side((1, 4))))), ((0, 1), side((0, 0), side((-3, 5), None, side((1, 6))))),
    ((1, 0), side((0, 0), None, side((3, 5), side((-1, 4))))), ((1, 0), side((0, 0), None, side((3, 5), side((3, 5))))),
    ((1, 1), side((0, 0), side((-1, 0)), side((3, 5), side((1, 1)), side((0, 0))))),
    ((1, 0), side((0, 0), None, side((3, 5), side((0, 0))))), ((0, 0), side((0, 0), side((-3, 5), side((0, 0))))),
    ((1, 1, 0), side((0, 0), None, side((3, 5), None, side((9, 9), side((3, 5)))))),
    ((0, 0, 0), side((0, 0), side((-3, 5), side((-5, 4), side((-3, 5)))))),
    ((1, 0, 0), side((0, 0), None, side((3, 5), side((2, 2), side((3, 1)))))),
    ((1, 0, 1), side((0, 0), None, side((3, 5), side((2, 2), None, side((1, 1)))))),
    ((1, 0, 1), side((0, 0), None, side((3, 5), side((2, 2), None, side((4, 6)))))),
    ((1, 0, 1, 1), side((0, 0), None, side((3, 5), side((2, 2), None, side((4, 1), None, side((3, 0))))))),
    ((0, 0), side((0, 0), side((-3, 5), ((-4, True), None, None), 7))), ((1,), side((0, 0), side((-3, 5)), 7)),
    ((0, 1), side((0, 0), side((-3, 5), None, ((-2, 6), None)), 7)),
]


def drawn_rectangle(generator, least, most):
    """Return a rectangle with ends from `least` to `most`, some of which lack."""
    ends = []
    for axis in (0, 1):
        low, high = sorted([generator.randrange(least, most + 1) for end in (0, 1)])
        ends.append((low if generator.random() < 0.7 else None, high if generator.random() < 0.7 else None))
    return (ends[0][0], ends[1][0], ends[0][1], ends[1][1])


def no_numbers(least, most):
    """Return what is no integer from `least` to `most`."""
    return NOTHING_WANTED + [None, least - 1, most + 1, MANY_FIGURES, -MANY_FIGURES, (), [], (least,), [least],
                             str(least), (0, 0)]


NO_FIGURES = no_numbers(0, 40)
NO_CAPS = no_numbers(1, 500)


def no_places(figures):
    """Return what is no place of a square."""
    side = 1 << figures
    return NO_POINTS + [(side, 0), (0, side), (-1, 0), (0, -1), (side, side), (FAR, 0), (-FAR, -FAR)]


def no_cells(figures):
    """Return what is no cell of a square."""
    return NOTHING_WANTED + [
        None, 0, MANY_FIGURES, (), (0,), (0, 0), (0, 0, 0, 0), [0, 0, 0], (False, 0, 0), (0, False, 0), (0, 0, False),
        (True, 0, 0), (1, True, 0), (1, 0, True), (-1, 0, 0), (0, 1, 0), (0, 0, 1), (0, -1, 0), (0, 0, -1), (1, 2, 0),
        (1, 0, 2), (figures, 1 << figures, 0), (figures, 0, 1 << figures), (figures + 1, 0, 0), (MANY_FIGURES, 0, 0),
        (-MANY_FIGURES, 0, 0), (0, MANY_FIGURES, 0), ("0", 0, 0), (0, "0", 0), (0, 0, [0]), ((0, 0), 0, 0),
        (None, None, None), ((0, 0, 0),), (0, 1j, 0),
    ]


def no_square_points(figures):
    """Return tuples of the index and a value that are no points of a square of at least two figures."""
    side = 1 << figures
    return NO_POINT_LISTS + [
        (0, [(side, 0)]), (0, ((0, side),)), (0, [(-1, 0)]), (0, [(0, -1)]), (1, [(0, 0), (side, side), (-1, 0)]),
        (1, ((0, 0), (0, -1))), (2, [(0, side), (0, 0), (0, 0)]), (2, [(0, side), (0, 0), None]),
        (1, [(0, -1), (0, -1)]), (2, [(1, 1), (0, 0), (FAR, FAR)]), (3, [(0, 0), (1, 1), (2, 2), (0, -FAR)]),
    ]


def wrong(values, error, name, told=None):
    """Return tuples (value, error, name, told) for values; those that an error tells itself without `told`."""
    return [(value, error, name, value if told is None else told) for value in values]


def wrong_numbers(name, least, most):
    return wrong(no_numbers(least, most), errors.InvalidNumber, "name", name)


def wrong_places(name, figures):
    return wrong(no_places(figures), errors.Mismatch, "name", name)


def wrong_pairs(pairs, error, name):
    """Return tuples (value, error, name, told) for tuples (told, value)."""
    return [(value, error, name, told) for told, value in pairs]


WRONG_FIGURES = wrong_numbers("figures", 0, 40)
WRONG_CAPS = wrong_numbers("cap", 1, 500)
WRONG_RECTANGLES = wrong(NO_RECTANGLES, errors.InvalidRectangle, "value")
WRONG_POINT = wrong(NO_POINTS, errors.InvalidPoint, "value")
WRONG_MIDDLES = wrong_pairs(NO_MIDDLE_TREES, errors.InvalidTree, "path")
WRONG_TREES = wrong_pairs(NO_TREES, errors.InvalidTree, "path")
WRONG_POINTS = wrong_pairs(NO_POINT_LISTS, errors.InvalidPoints, "index")


def wrong_square_points(figures):
    return wrong_pairs(no_square_points(figures), errors.InvalidPoints, "index")
