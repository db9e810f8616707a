"""The errors of the package, each with the value that tells what is wrong.

No message shows its value: some values, such as a number of thousands of figures or a very deep tree,
cannot be turned into text.
"""


class PlaneError(ValueError):
    """The base of all errors of the package."""


class InvalidPoint(PlaneError):
    """Raised for what is no point."""

    def __init__(self, value):
        super().__init__("this is no point")
        self.value = value


class InvalidPoints(PlaneError):
    """Raised for what are no points, with the index of the first wrong entry, or -1."""

    def __init__(self, index):
        super().__init__("these are no different points, or too many")
        self.index = index


class InvalidRectangle(PlaneError):
    """Raised for what is no rectangle."""

    def __init__(self, value):
        super().__init__("this is no rectangle")
        self.value = value


class InvalidTree(PlaneError):
    """Raised for what is no tree, with the path of the first fault."""

    def __init__(self, path):
        super().__init__("this is no tree")
        self.path = path


class InvalidNumber(PlaneError):
    """Raised for a wrong number or word, with the name of the argument."""

    def __init__(self, name):
        super().__init__("an argument is none of the numbers or words that it can be")
        self.name = name


class InvalidOrder(PlaneError):
    """Raised for what is no order of a tree, with the index of the first wrong entry, or -1."""

    def __init__(self, index):
        super().__init__("this is no order of the tree")
        self.index = index


class InvalidText(PlaneError):
    """Raised for a text that cannot be read, with the first wrong place in it, or -1."""

    def __init__(self, place):
        super().__init__("this text cannot be read")
        self.place = place


class NotThere(PlaneError):
    """Raised for a point that is wanted, but not there."""

    def __init__(self, point):
        super().__init__("the point is not there")
        self.point = point


class AlreadyThere(PlaneError):
    """Raised for a point that is there already."""

    def __init__(self, point):
        super().__init__("the point is there already")
        self.point = point


class TooLarge(PlaneError):
    """Raised for what has more than a limit."""

    def __init__(self, limit):
        super().__init__("this is too large")
        self.limit = limit


class Mismatch(PlaneError):
    """Raised for an argument that does not go with the others, with its name."""

    def __init__(self, name):
        super().__init__("an argument does not go with the others")
        self.name = name
