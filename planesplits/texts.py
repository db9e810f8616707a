"""Trees and indexes as texts, and read back from them.

A text may tell a tree of any depth, so nothing here calls itself.
"""

from planesplits.errors import InvalidText, Mismatch, PlaneError
from planesplits.live import Index
from planesplits.quarters import check_quarter
from planesplits.sides import check_middle

# Python reads no numbers of many thousand figures; those that are longer than this are no coordinates anyhow.
LONGEST_NUMBER = 40
NO_COORDINATE = 10 ** 40
# What follows the numbers of a node, backwards; a "-" stands for any tree.
BEHIND_NUMBERS = {4: ")- - - - ", 2: ")- - "}


def text_of(tree, parts_of):
    """Return the text of a tree, for a function that returns the tuple of the parts of a node."""
    words = []
    # Strings on the pile are written as they are.
    pile = [tree]
    while pile:
        thing = pile.pop()
        if thing is None:
            words.append("-")
        elif isinstance(thing, str):
            words.append(thing)
        else:
            words.append(f"({thing[0][0]} {thing[0][1]}")
            pile.append(")")
            for part in parts_of(thing)[::-1]:
                pile.append(part)
                pile.append(" ")
    return "".join(words)


def number_in(word):
    """Return the number that a word tells, None for what tells none."""
    figures = word[1:] if word.startswith("-") else word
    if not figures.isdigit() or figures[0] == "0" and word != "0":
        return None
    return int(word) if len(word) <= LONGEST_NUMBER else NO_COORDINATE


def end_of_number(text, start):
    """Return the place behind the number at a place of a text; raise InvalidText where it does not go on."""
    first = start + 1 if text.startswith("-", start) else start
    end = first
    while end < len(text) and text[end].isdigit():
        end += 1
    if end == first or text[first] == "0" and first > start:
        raise InvalidText(first)
    # A number goes on behind its first figure, but not behind a 0.
    if text[first] == "0" and end > first + 1:
        raise InvalidText(first + 1)
    return end


def point_at(text, start):
    """Return the point whose two numbers stand at a place of a text, and the place behind it."""
    blank = end_of_number(text, start)
    if not text.startswith(" ", blank):
        raise InvalidText(blank)
    end = end_of_number(text, blank + 1)
    return (number_in(text[start:blank]), number_in(text[blank + 1:end])), end


def tree_in(text, many, node_of):
    """Return the tree of a text whose nodes have so many parts, for a function of the point and the list of parts.

    InvalidText is raised for what is no text of a tree. The points and trees need not be right.
    """
    if not isinstance(text, str):
        raise InvalidText(-1)
    points = []
    trees = []
    at = 0
    # What has yet to come, the next sign last.
    wanted = ["-"]
    while wanted:
        sign = wanted.pop()
        if sign == "-" and text.startswith("(", at):
            point, at = point_at(text, at + 1)
            points.append(point)
            wanted.extend(list(BEHIND_NUMBERS[many]))
            continue
        if not text.startswith(sign, at):
            raise InvalidText(at)
        at += 1
        if sign == "-":
            trees.append(None)
        elif sign == ")":
            parts = trees[-many:]
            del trees[-many:]
            trees.append(node_of(points.pop(), parts))
    if at < len(text):
        raise InvalidText(at)
    return trees[0]


def quarter_text(tree):
    """Return the text of a quarter tree."""
    check_quarter(tree)
    return text_of(tree, lambda node: node[1])


def read_quarter(text):
    """Return the quarter tree with a text."""
    tree = tree_in(text, 4, lambda point, parts: (point, tuple(parts)))
    check_quarter(tree)
    return tree


def middle_text(tree):
    """Return the text of a middle tree."""
    check_middle(tree)
    return text_of(tree, lambda node: node[1:])


def read_middle(text):
    """Return the middle tree with a text."""
    tree = tree_in(text, 2, lambda point, parts: (point, parts[0], parts[1]))
    check_middle(tree)
    return tree


def row_of(word, numbers):
    """Return the row of a journal with a word and some numbers."""
    return " ".join([word] + [str(number) for number in numbers]) + "\n"


def journal_text(index):
    """Return the text of an index by its deeds."""
    if not isinstance(index, Index):
        raise Mismatch("index")
    rows = [row_of("square", [index.figures, index.cap])]
    for word, *points in index.deeds():
        rows.append(row_of(word, [number for point in points for number in point]))
    return "".join(rows)


def index_behind(index, row):
    """Return the index behind a row of a journal; an error of the package is raised for what is no such row.

    The index is None ahead of the first row; otherwise the deed is done on it.
    """
    word, *others = row.split(" ")
    # What is no number is no coordinate either, and so raises the error of the deed.
    numbers = [number_in(other) for other in others]
    many = len(numbers)
    if index is None:
        if word != "square" or many != 2:
            raise Mismatch("row")
        return Index(numbers[0], numbers[1])
    if word == "put" and many == 2:
        index.put((numbers[0], numbers[1]))
    elif word == "take" and many == 2:
        index.take((numbers[0], numbers[1]))
    elif word == "move" and many == 4:
        index.move((numbers[0], numbers[1]), (numbers[2], numbers[3]))
    else:
        raise Mismatch("row")
    return index


def read_journal(text):
    """Return the index on which the deeds of a text are done."""
    if not isinstance(text, str):
        raise InvalidText(-1)
    *rows, rest = text.split("\n")
    index = None
    for number, row in enumerate(rows):
        try:
            index = index_behind(index, row)
        except PlaneError:
            raise InvalidText(number) from None
    if index is None or rest != "":
        raise InvalidText(len(rows))
    return index
