"""Pictures as they are made: 0, 1, or a tuple of the four pictures of the cells of a square.

A square has at most 40 figures, so what calls itself here for the parts of a picture does not go deep. The functions
expect valid arguments, but for those that look for faults.
"""

from planesplits.checks import is_integer
from planesplits.errors import InvalidTree, TooLarge
from planesplits.points import LAST_PART_FIRST

MOST_NODES = 4000
# A picture has 4 * n + 1 nodes, n of which are tuples.
MOST_TUPLES = 999
WHITE = (0, 0, 0, 0)
BLACK = (1, 1, 1, 1)


def is_colour(value):
    """Return whether any object is 0 or 1."""
    return is_integer(value) and 0 <= value <= 1


def is_plain(entries):
    """Return whether the entries of a tuple are four times 0, or four times 1."""
    # A bool is equal to a colour, but none.
    return entries in (WHITE, BLACK) and all([is_colour(entry) for entry in entries])


def picture_fault(value, figures):
    """Return the path of the first fault of any object as a picture of a square, None if there is none."""
    many = 0
    pile = [(value, ())]
    while pile:
        thing, path = pile.pop()
        many += 1
        if many > MOST_NODES:
            return path
        if is_colour(thing):
            continue
        if not isinstance(thing, tuple) or len(thing) != 4 or len(path) == figures or is_plain(thing):
            return path
        for part in LAST_PART_FIRST:
            pile.append((thing[part], path + (part,)))
    return None


def check_picture(value, figures):
    """Raise InvalidTree for what is no picture of a square."""
    path = picture_fault(value, figures)
    if path is not None:
        raise InvalidTree(path)


def made(parts):
    """Return the picture of a tuple of four pictures."""
    return parts[0] if parts == WHITE or parts == BLACK else parts


def noted(parts, tuples):
    """Return the picture of a tuple of four pictures; note it in a list of those that are tuples.

    All of them are parts of one result, which is too large if there are too many of them; so work on a result that
    would have ever more parts comes to its end.
    """
    picture = made(parts)
    if isinstance(picture, tuple):
        tuples.append(picture)
        if len(tuples) > MOST_TUPLES:
            raise TooLarge(MOST_NODES)
    return picture


def all_nodes(picture):
    """Return the list of all nodes of a picture, each as often as it stands."""
    nodes = [picture]
    row = [picture]
    while row:
        row = [part for node in row if isinstance(node, tuple) for part in node]
        nodes.extend(row)
    return nodes


def counts_of(picture):
    """Return how many nodes of a picture are 1, 0, tuples."""
    nodes = all_nodes(picture)
    split = len([node for node in nodes if isinstance(node, tuple)])
    black = len([node for node in nodes if node == 1])
    return black, len(nodes) - black - split, split


def small_enough(picture):
    """Return a picture; raise TooLarge if it has too many nodes."""
    if len(all_nodes(picture)) > MOST_NODES:
        raise TooLarge(MOST_NODES)
    return picture


def common(one, other, colour):
    """Return the picture that has a colour just in the places where two pictures have it."""
    if one == 1 - colour or other == 1 - colour:
        return 1 - colour
    if one == colour:
        return other
    if other == colour:
        return one
    return made(tuple([common(part, part2, colour) for part, part2 in zip(one, other)]))


def inverted(picture):
    """Return the picture with the other colour at each place."""
    return tuple([inverted(part) for part in picture]) if isinstance(picture, tuple) else 1 - picture


def placed_anew(picture, numbers):
    """Return the picture whose parts are those with these numbers of a picture, and theirs likewise."""
    if not isinstance(picture, tuple):
        return picture
    return tuple([placed_anew(picture[number], numbers) for number in numbers])


def parts_in(picture):
    """Return the four parts of a picture, of a colour too."""
    return picture if isinstance(picture, tuple) else (picture, picture, picture, picture)


def window(block, x, y, side, tuples):
    """Return the picture of a square of a side whose least place is (x, y) in a block of four squares of this side.

    x and y are less than the side. What is made is noted in a list of tuples.
    """
    part0, part1, part2, part3 = block
    if x == 0 and y == 0:
        return part0
    # What the window does not reach must not tell it apart.
    if x == 0:
        part1, part3 = part0, part2
    if y == 0:
        part2, part3 = part0, part1
    if not isinstance(part0, tuple) and part0 == part1 == part2 == part3:
        return part0
    # The block in rows of half the side.
    parts = [parts_in(part) for part in (part0, part1, part2, part3)]
    rows = [parts[0][:2] + parts[1][:2], parts[0][2:] + parts[1][2:],
            parts[2][:2] + parts[3][:2], parts[2][2:] + parts[3][2:]]
    half = side // 2
    made_parts = []
    for b in (y // half, y // half + 1):
        for a in (x // half, x // half + 1):
            four = (rows[b][a], rows[b][a + 1], rows[b + 1][a], rows[b + 1][a + 1])
            made_parts.append(window(four, x % half, y % half, half, tuples))
    return noted(tuple(made_parts), tuples)


def moved_by(figures, picture, dx, dy):
    """Return the picture that is moved, with white where something comes in from outside; it may be too large."""
    side = 1 << figures
    # The least place of what comes into the square lies at (-dx, -dy), in one of the four blocks around it.
    block = [0, 0, 0, 0]
    if abs(dx) < side and abs(dy) < side:
        block[(1 if dx > 0 else 0) + (2 if dy > 0 else 0)] = picture
    return window(tuple(block), -dx % side, -dy % side, side, [])
