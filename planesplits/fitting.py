"""How many nodes a small picture has wherever it is moved in its square.

The places of a plane, twice as wide as the square, are the bits of a number, row by row; the square begins in its
middle. The functions expect valid arguments.
"""


def ones_in(number):
    """Return how many binary figures of a number are 1."""
    return f"{number:b}".count("1")


def grid(width, step):
    """Return the number with the bits of all places of a plane both of whose coordinates are multiples of a step."""
    row = sum([1 << x for x in range(0, width, step)])
    return sum([row << y * width for y in range(0, width, step)])


def mixed_squares(bits, width, most):
    """Return the list of the least places of all squares with both colours, of the sides 2 ** k for k up to `most`.

    The places are the bits of a number for each side, as those that are black are the bits of one.
    """
    some = bits
    every = bits
    rows = [0]
    for k in range(most):
        step = 1 << k
        # The squares of twice the side, of which each is made of four.
        some = some | some >> step
        some = some | some >> step * width
        every = every & every >> step
        every = every & every >> step * width
        rows.append(some & ~every)
    return rows


def mixed_by_place(bits, width, most):
    """Return the list of rows that tell how many squares of side 2 ** k, for k up to `most`, have both colours.

    A row has an entry for each grid of squares: y * 2 ** k + x is that of the grid with a square that begins at (x, y).
    """
    table = []
    for k, mixed in enumerate(mixed_squares(bits, width, most)):
        step = 1 << k
        mask = grid(width, step)
        table.append([ones_in(mixed >> y * width + x & mask) for y in range(step) for x in range(step)])
    return table


def nodes_if_moved(table, dx, dy):
    """Return how many nodes a picture with both colours has if it is moved, without loss, by dx and dy."""
    split = 1
    for k, row in enumerate(table):
        step = 1 << k
        split += row[-dy % step * step + -dx % step]
    return 4 * split + 1


def least_moved(rows):
    """Return the least tuple (nodes, dx, dy) over all moves without loss, for the rows of a picture of both colours."""
    side = len(rows)
    # The figure of the greatest place of a number is written first.
    numbers = [int(row[::-1].replace("#", "1").replace(".", "0"), 2) for row in rows]
    together = 0
    bits = 0
    for y, number in enumerate(numbers):
        together = together | number
        bits = bits | number << (side + y) * 2 * side + side
    black = [y for y in range(side) if numbers[y] > 0]
    least_x = (together & -together).bit_length() - 1
    table = mixed_by_place(bits, 2 * side, side.bit_length() - 2)
    return min([(nodes_if_moved(table, dx, dy), dx, dy)
                for dx in range(-least_x, side - together.bit_length() + 1)
                for dy in range(-black[0], side - black[-1])])
