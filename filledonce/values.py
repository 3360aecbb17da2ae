"""Values that lie evenly between those at the corners of a triangle."""

from filledonce.errors import InvalidValues
from filledonce.points import as_point, side
from filledonce.wholes import common_divisor, is_whole


def weights(triangle, point):
    """Return the sides of a point at the edges (b, c), (c, a) and (a, b)."""
    place = as_point(point)
    a, b, c = triangle.corners()
    return (side(b, c, place), side(c, a, place), side(a, b, place))


def value_at(triangle, values, point):
    """Return the value at a point as two integers: what is divided, and by what."""
    parts = weights(triangle, point)
    check_values(values)
    total = sum([part * worth for part, worth in zip(parts, values)])
    area = triangle.area2
    shared = common_divisor(total, area)
    return (total // shared, area // shared)


def check_values(values):
    """Raise InvalidValues for what is no list or tuple of three integers."""
    if not isinstance(values, (list, tuple)) or len(values) != 3:
        raise InvalidValues(None)
    for number, worth in enumerate(values):
        if not is_whole(worth):
            raise InvalidValues(number)
