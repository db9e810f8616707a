"""Texts of trees, said again in the words of the document, sign by sign."""


def text_of(tree):
    if tree is None:
        return "-"
    parts = tree[1] if len(tree) == 2 else tree[1:]
    return "(" + " ".join([str(tree[0][0]), str(tree[0][1])] + [text_of(part) for part in parts]) + ")"


class Stop(Exception):
    """Raised at a place where a text does not go on."""


class Reader:
    """Reads a text from the left to the right."""

    def __init__(self, text, many):
        self.text = text
        self.many = many
        self.at = 0

    def sees(self, signs):
        return self.at < len(self.text) and self.text[self.at] in signs

    def wants(self, signs):
        if not self.sees(signs):
            raise Stop(self.at)
        self.at += 1

    def number(self):
        start = self.at
        if self.sees("0"):
            self.wants("0")
        else:
            if self.sees("-"):
                self.wants("-")
            self.wants("123456789")
            while self.sees("0123456789"):
                self.wants("0123456789")
        return int(self.text[start:self.at])

    def tree(self):
        if self.sees("-"):
            self.wants("-")
            return None
        self.wants("(")
        x = self.number()
        self.wants(" ")
        y = self.number()
        parts = []
        for part in range(self.many):
            self.wants(" ")
            parts.append(self.tree())
        self.wants(")")
        return ((x, y), tuple(parts)) if self.many == 4 else ((x, y), parts[0], parts[1])


def read(text, many):
    """Return a tuple (tree, None), or (None, place) for what is no text of a tree."""
    reader = Reader(text, many)
    try:
        tree = reader.tree()
        if reader.at < len(text):
            raise Stop(reader.at)
        return tree, None
    except Stop as stop:
        return None, stop.args[0]
