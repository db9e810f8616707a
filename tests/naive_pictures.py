"""Pictures, said again in the words of the document, by the sets of their black places, for small squares."""

from naive_squares import all_places, inside


def part_of(figures, place):
    """Return the number of the cell, of the four of a square, in which a place lies, and the place in it."""
    half = 2 ** (figures - 1)
    x, y = place
    return (1 if x >= half else 0) + (2 if y >= half else 0), (x % half, y % half)


def picture(figures, places):
    """Return the picture with just these black places, a set."""
    if not places:
        return 0
    if len(places) == 4 ** figures:
        return 1
    parts = [set(), set(), set(), set()]
    for place in places:
        number, rest = part_of(figures, place)
        parts[number].add(rest)
    return tuple([picture(figures - 1, part) for part in parts])


def places(figures, drawn):
    """Return the set of the black places of a picture."""
    if drawn == 0:
        return set()
    if drawn == 1:
        return set(all_places(figures))
    half = 2 ** (figures - 1)
    return {(x + number % 2 * half, y + number // 2 * half)
            for number in range(4) for x, y in places(figures - 1, drawn[number])}


def nodes(drawn):
    """Return all pictures in a picture, in reading order."""
    return [drawn] + ([node for part in drawn for node in nodes(part)] if isinstance(drawn, tuple) else [])


def is_number(value, number):
    return isinstance(value, int) and value is not True and value is not False and value == number


def fault(figures, value):
    rows = rows_of_nodes(figures, value, ())
    for at, (path, good) in enumerate(rows):
        if not good or at == 4000:
            return path
    return None


def rows_of_nodes(figures, value, path):
    """Return tuples (path, is it right?) in reading order, without what is below wrong ones."""
    if is_number(value, 0) or is_number(value, 1):
        return [(path, True)]
    good = isinstance(value, tuple) and len(value) == 4 and figures > 0
    if good:
        for colour in (0, 1):
            good = good and not all(is_number(entry, colour) for entry in value)
    rows = [(path, good)]
    if good:
        for number in range(4):
            rows += rows_of_nodes(figures - 1, value[number], path + (number,))
    return rows


def neighbours(place):
    x, y = place
    return [(x + 1, y), (x - 1, y), (x, y + 1), (x, y - 1)]


def edge(black):
    return len([1 for place in black for other in neighbours(place) if other not in black])


def regions(black):
    left = set(black)
    many = 0
    while left:
        many += 1
        pile = [left.pop()]
        while pile:
            for other in neighbours(pile.pop()):
                if other in left:
                    left.remove(other)
                    pile.append(other)
    return many


def shifted(figures, black, dx, dy):
    side = range(2 ** figures)
    return {(x + dx, y + dy) for x, y in black if x + dx in side and y + dy in side}


def best_shift(figures, black):
    side = 2 ** figures
    rows = []
    for dx in range(-side, side + 1):
        for dy in range(-side, side + 1):
            moved = shifted(figures, black, dx, dy)
            if len(moved) == len(black):
                rows.append((len(nodes(picture(figures, moved))), dx, dy))
    return min(rows)


def counts(drawn):
    rows = nodes(drawn)
    return rows.count(1), rows.count(0), len([node for node in rows if isinstance(node, tuple)])


def in_rectangle(figures, rectangle):
    return {place for place in all_places(figures) if inside(place, rectangle)}


def rows(figures, black):
    side = range(2 ** figures)
    return ["".join(["#" if (x, y) in black else "." for x in side]) for y in side]


def counts_of_pictures(figures, split):
    """Return lists of how many pictures have 0, 1, .. tuples, for 0, 1, .. figures, up to these numbers.

    One figure after the other, all ways are added up in which four pictures have one tuple less together.
    """
    rows = [[2] + [0] * split]
    for level in range(figures):
        one = rows[-1]
        two = [sum([one[k] * one[total - k] for k in range(total + 1)]) for total in range(split)]
        four = [sum([two[k] * two[total - k] for k in range(total + 1)]) for total in range(split)]
        # Four times 0 and four times 1 are no tuples.
        rows.append([2, four[0] - 2] + four[1:])
    return rows
