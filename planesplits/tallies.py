"""How many pictures have so many tuples: figure by figure, and for great numbers without going through all figures.

How many things of a kind there are with 0, 1, 2, .. tuples stands in a ROW; the product of two rows is that of the
pairs of such things. FREE pictures are those of squares with figures enough for all with so many tuples. The functions
expect valid arguments.
"""

from planesplits.numbers import count_shapes, product_up_to


def packed_row(figures, split):
    """Return the row of pictures, from 0 to `split` tuples, as the figures of one number, and how many bits each has.

    C(4 * n, n) / (3 * n + 1) shapes have n tuples, fewer than (256 / 27) ** n, which is less than 2 ** (3.25 * n); and
    they have 3 * n + 1 places with a colour. So these are bits enough, also for the figures of products that count.
    """
    bits = 25 * split // 4 + 4
    mask = (1 << bits * (split + 1)) - 1
    counts = 2
    # No picture is deeper than it has tuples.
    for level in range(min(figures, split)):
        two = counts * counts & mask
        four = two * two & mask
        counts = 2 + (four - 2 << bits) & mask
    return counts, bits


def count_free(split):
    """Return how many free pictures have so many tuples, at least one.

    A shape of n tuples has 3 * n + 1 places with colours. Of all ways to colour it those in which tuples have one
    colour four times are no pictures. They are taken off by sums over all sets of such tuples: with each of these put
    back to a place, it is a shape of j tuples in which n - j places are chosen. So the terms for j tuples are
    2 ** (3 * j + 1) * (4 * j)! / (j! * (n - j)! * (4 * j + 1 - n)!), with both signs in turn, from j = n downwards.
    """
    term = count_shapes(split) << 3 * split + 1
    total = term
    # The places that are not chosen.
    room = 3 * split + 1
    for j in reversed(range((split + 2) // 4, split)):
        top = (j + 1) * room * (room - 1) * (room - 2) * (room - 3)
        bottom = (4 * j + 4) * (4 * j + 3) * (4 * j + 2) * (4 * j + 1) * 8 * (split - j)
        term = -term * top // bottom
        room -= 4
        total += term
    return total


def square_at(row, at):
    """Return the number at a place of the product of a row with itself."""
    half = (at + 1) // 2
    twice = 2 * sum([row[k] * row[at - k] for k in range(half)])
    return twice if at & 1 == 1 else twice + row[half] * row[half]


def free_row(many):
    """Return the row of free pictures, from 0 to `many` tuples."""
    one = [2]
    two = []
    for split in range(many):
        two.append(square_at(one, split))
        four = square_at(two, split)
        # Four times the same colour is no tuple.
        one.append(four - 2 if split == 0 else four)
    return one


def power_of(row, exponent, many):
    """Return the first numbers of a power of a row that begins with 2."""
    power = [1 << exponent]
    for at in range(1, many):
        # The power p of a row r is known by its slope: r * p' = exponent * r' * p.
        terms = [(k * (exponent + 1) - at) * row[k] * power[at - k] for k in range(1, at + 1)]
        power.append(sum(terms) // (2 * at))
    return power


def count_deeper(figures, split):
    """Return how many free pictures need more than so many figures, for 0 < figures < split <= 2 * figures + 1.

    Such a picture has, figures - low levels down, parts that need more than `low` figures: one or two of them, as it
    has too few tuples for three. So pictures are counted once for each such part, less once for each two of them.
    """
    many = split - figures
    low = (many - 1) // 2
    free = free_row(low + many)
    packed, bits = packed_row(low, low + many)
    mask = (1 << bits) - 1
    # Such parts by themselves, from low + 1 tuples on.
    deep = [free[k] - (packed >> bits * k & mask) for k in range(low + 1, low + many + 1)]
    # Pictures with a choice of one of them, any number of levels down: on each level it is one of four, three are free.
    cube = power_of(free, 3, many - low)
    below = []
    for at in range(many - low - 1):
        below.append(deep[at] + 4 * sum([cube[k] * below[at - 1 - k] for k in range(at)]))
    # With a choice of one part these are (4 * free ** 3) ** (levels + 1) * deep. With a choice of two, six ways to part
    # on one level, the levels of one part below it are in `below`; the others are as many as with one part alone:
    # (4 * free ** 3) ** levels * deep * 6 * free ** 2 * below. The first less the second is told here.
    levels = figures - low - 1
    above = power_of(free, 3 * levels + 2, many)
    beside = [2 * free[at] - (3 * below[at - low - 1] if at > low else 0) for at in range(many)]
    ends = product_up_to(many - 1, deep, beside)
    return sum([ends[k] * above[many - 1 - k] for k in range(many)]) << 2 * levels + 1
