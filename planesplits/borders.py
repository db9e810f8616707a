"""Where the black parts of a picture lie side by side.

Black parts that are no tuples are SPOTS, numbered from 1 on in reading order. The functions expect valid arguments.
"""

from planesplits.tiles import parts_in


def numbered(picture, side, sides):
    """Return a picture with the numbers of its spots in the place of 1; append their sides to a list."""
    if isinstance(picture, tuple):
        return tuple([numbered(part, side // 2, sides) for part in picture])
    if picture == 0:
        return 0
    sides.append(side)
    return len(sides) - 1


def pairs_inside(picture, side):
    """Return the list of tuples (part, part, axis, side) of the parts that lie side by side, of all tuples."""
    pairs = []
    pile = [(picture, side)]
    while pile:
        thing, side = pile.pop()
        if isinstance(thing, tuple):
            part0, part1, part2, part3 = thing
            half = side // 2
            pairs.extend([(part0, part1, 0, half), (part2, part3, 0, half)])
            pairs.extend([(part0, part2, 1, half), (part1, part3, 1, half)])
            pile.extend([(part, half) for part in thing])
    return pairs


def pairs_between(one, other, axis):
    """Return the pairs of parts that lie side by side where one picture ends on an axis and another begins."""
    parts = parts_in(one)
    parts2 = parts_in(other)
    if axis == 1:
        return [(parts[2], parts2[0]), (parts[3], parts2[1])]
    return [(parts[1], parts2[0]), (parts[3], parts2[2])]


def seams_of(figures, with_numbers):
    """Return the list of tuples (spot, spot, length) of the spots that lie side by side in a numbered picture."""
    seams = []
    pile = pairs_inside(with_numbers, 1 << figures)
    while pile:
        one, other, axis, length = pile.pop()
        if one == 0 or other == 0:
            continue
        if isinstance(one, tuple) or isinstance(other, tuple):
            pile.extend([(part, part2, axis, length // 2) for part, part2 in pairs_between(one, other, axis)])
        else:
            seams.append((one, other, length))
    return seams


def sides_of_spots(figures, picture):
    """Return the list of the sides of the spots of a picture, behind a 0 for no spot, and the numbered picture."""
    sides = [0]
    with_numbers = numbered(picture, 1 << figures, sides)
    return sides, with_numbers


def chief_of(chiefs, spot):
    """Return the spot to which the way from a spot leads, and make this way shorter."""
    while chiefs[spot] != spot:
        chiefs[spot] = chiefs[chiefs[spot]]
        spot = chiefs[spot]
    return spot


def count_regions(many, seams):
    """Return into how many parts so many spots fall, if those with a seam are joined."""
    chiefs = list(range(many + 1))
    for one, other, length in seams:
        chief = chief_of(chiefs, one)
        chief2 = chief_of(chiefs, other)
        if chief != chief2:
            chiefs[chief2] = chief
            many -= 1
    return many
