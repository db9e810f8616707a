"""What the arguments can be, and the errors for those that are something else."""

from planesplits.errors import InvalidNumber, InvalidPoint, InvalidPoints, InvalidRectangle

FARTHEST_COORDINATE = 10 ** 30
FARTHEST_END = 10 ** 31
MOST_POINTS = 500


def is_integer(value):
    """Return whether a value is an integer; a bool is none, though Python takes it for an int."""
    return isinstance(value, int) and not isinstance(value, bool)


def is_coordinate(value):
    """Return whether any object is a coordinate."""
    return is_integer(value) and -FARTHEST_COORDINATE <= value <= FARTHEST_COORDINATE


def is_point(value):
    """Return whether any object is a point."""
    if not isinstance(value, tuple) or len(value) != 2:
        return False
    return is_coordinate(value[0]) and is_coordinate(value[1])


def is_end(value):
    """Return whether any object can be an end of a rectangle."""
    return value is None or is_integer(value) and -FARTHEST_END <= value <= FARTHEST_END


def are_in_order(low, high):
    """Return whether two ends, of which either can lack, are not the wrong way round."""
    return low is None or high is None or low <= high


def is_rectangle(value):
    """Return whether any object is a rectangle."""
    if not isinstance(value, tuple) or len(value) != 4:
        return False
    x, y, x2, y2 = value
    if not (is_end(x) and is_end(y) and is_end(x2) and is_end(y2)):
        return False
    return are_in_order(x, x2) and are_in_order(y, y2)


def check_point(value):
    """Raise InvalidPoint for what is no point."""
    if not is_point(value):
        raise InvalidPoint(value)


def check_points(value):
    """Raise InvalidPoints for what is no list or tuple of different points."""
    if not isinstance(value, (list, tuple)) or len(value) > MOST_POINTS:
        raise InvalidPoints(-1)
    seen = set()
    for index, entry in enumerate(value):
        # An entry that is no point may be unhashable, so it must not be looked up.
        if not is_point(entry) or entry in seen:
            raise InvalidPoints(index)
        seen.add(entry)


def check_rectangle(value):
    """Raise InvalidRectangle for what is no rectangle."""
    if not is_rectangle(value):
        raise InvalidRectangle(value)


def check_number(value, least, most, name):
    """Raise InvalidNumber with a name for what is no integer from `least` to `most`."""
    if not isinstance(value, int) or isinstance(value, bool) or not least <= value <= most:
        raise InvalidNumber(name)
