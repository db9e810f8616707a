"""Cells, codes and short trees, said again in the words of the document, for small squares."""


def all_places(figures):
    return [(x, y) for x in range(2 ** figures) for y in range(2 ** figures)]


def all_cells(figures):
    return [(level, i, j) for level in range(figures + 1) for i in range(2 ** level) for j in range(2 ** level)]


def has(figures, cell, place):
    level, i, j = cell
    return place[0] >> (figures - level) == i and place[1] >> (figures - level) == j


def places_of(figures, cell):
    return [place for place in all_places(figures) if has(figures, cell, place)]


def parts_of(cell):
    level, i, j = cell
    return [(level + 1, 2 * i + number % 2, 2 * j + number // 2) for number in range(4)]


def walk(figures, cap, points, cell=(0, 0, 0)):
    """Return tuples (cell, its points ascending, is it split?) in reading order."""
    inside = sorted([point for point in points if has(figures, cell, point)])
    rows = [(cell, inside, len(inside) > cap)]
    if len(inside) > cap:
        for part in parts_of(cell):
            rows += walk(figures, cap, points, part)
    return rows


def leaves(figures, cap, points):
    return [(cell, inside) for cell, inside, split in walk(figures, cap, points) if not split]


def split_cells(figures, cap, points):
    return [cell for cell, inside, split in walk(figures, cap, points) if split]


def moved(figures, cap, points, index, place):
    before = split_cells(figures, cap, points)
    after = split_cells(figures, cap, [place if k == index else point for k, point in enumerate(points)])
    return [cell for cell in after if cell not in before], [cell for cell in before if cell not in after]


def code(figures, place):
    total = 0
    for k in range(figures):
        a, b = place[0] // 2 ** k % 2, place[1] // 2 ** k % 2
        total += (a + 2 * b) * 4 ** k
    return total


def common_cell(figures, points):
    """Return the cell of the greatest level in which all points lie."""
    cells = [cell for cell in all_cells(figures) if all(has(figures, cell, point) for point in points)]
    return max(cells)


def short(figures, points):
    if len(points) < 2:
        return points[0] if points else None
    cell = common_cell(figures, points)
    parts = [[point for point in points if has(figures, part, point)] for part in parts_of(cell)]
    return (cell, tuple([short(figures, part) for part in parts]))


def is_number(value):
    return isinstance(value, int) and value is not True and value is not False


def is_place(figures, value):
    return (isinstance(value, tuple) and len(value) == 2 and is_number(value[0]) and is_number(value[1])
            and 0 <= value[0] < 2 ** figures and 0 <= value[1] < 2 ** figures)


def is_cell(figures, value):
    return (isinstance(value, tuple) and len(value) == 3 and all(is_number(entry) for entry in value)
            and 0 <= value[0] <= figures and 0 <= value[1] < 2 ** value[0] and 0 <= value[2] < 2 ** value[0])


def lies_in(cell, room):
    """Return whether a cell is another one, or lies in one of its parts."""
    while cell[0] > room[0]:
        cell = (cell[0] - 1, cell[1] // 2, cell[2] // 2)
    return cell == room


def fault(figures, value):
    """Return the path of the first fault of a value as a short tree, however many places it has."""
    for path, good in places_and_forks(figures, value, (), (0, 0, 0)):
        if not good:
            return path
    return None


def places_and_forks(figures, value, path, room):
    """Return tuples (path, is it right?) in reading order, without what is below wrong ones."""
    if value is None:
        return []
    if is_place(figures, value):
        return [(path, lies_in((figures, value[0], value[1]), room))]
    if not isinstance(value, tuple) or len(value) != 2 or not is_cell(figures, value[0]):
        return [(path, False)]
    cell, parts = value
    if not isinstance(parts, tuple) or len(parts) != 4 or len([part for part in parts if part is not None]) < 2:
        return [(path, False)]
    if cell[0] == figures or not lies_in(cell, room):
        return [(path, False)]
    rows = [(path, True)]
    for number in range(4):
        rows += places_and_forks(figures, parts[number], path + (number,), parts_of(cell)[number])
    return rows


def forks(tree):
    """Return the cells of the forks of a short tree in reading order."""
    if tree is None or isinstance(tree[0], int):
        return []
    return [tree[0]] + [cell for part in tree[1] for cell in forks(part)]


def way(figures, tree, place):
    if tree is None:
        return []
    if isinstance(tree[0], int):
        return [tree]
    cell, parts = tree
    if not has(figures, cell, place):
        return [cell]
    number = [has(figures, part, place) for part in parts_of(cell)].index(True)
    return [cell] + way(figures, parts[number], place)


def inside(place, rectangle):
    x, y, x2, y2 = rectangle
    return not (x is not None and place[0] < x or x2 is not None and place[0] > x2
                or y is not None and place[1] < y or y2 is not None and place[1] > y2)


def codes_in(figures, rectangle):
    return sorted([code(figures, place) for place in all_places(figures) if inside(place, rectangle)])


def runs(codes):
    rows = []
    for number in codes:
        if rows and rows[-1][1] == number - 1:
            rows[-1] = (rows[-1][0], number)
        else:
            rows.append((number, number))
    return rows


def jumped(figures, points, rectangle):
    codes = codes_in(figures, rectangle)
    found, visited = [], []
    at = codes[0] if codes else None
    while at is not None:
        left = sorted([(code(figures, point), point) for point in points if code(figures, point) >= at])
        if not left:
            break
        here, point = left[0]
        visited.append(point)
        if inside(point, rectangle):
            found.append(point)
            at = here + 1
        else:
            at = min([number for number in codes if number > here], default=None)
    return found, visited
