"""Halves as very small shifts of all samples."""

from filledonce.errors import InvalidNumber
from filledonce.points import as_point, quarter, side
from filledonce.wholes import is_whole


def shift_of(half):
    """Return the two points of which first a small and then a still smaller multiple moves the samples."""
    turned = quarter(half.way)
    if half.ahead:
        return (half.way * -1, turned)
    return (half.way * -1, turned * -1)


def owns_shifted(half, triangle, point, scale):
    """Tell whether a point that is moved by a small way lies within a triangle, on no edge."""
    place = as_point(point)
    if not is_whole(scale) or scale < 1:
        raise InvalidNumber(scale)
    small, smaller = shift_of(half)
    square = scale * scale
    moved = place * square + small * scale + smaller
    return all([side(a * square, b * square, moved) > 0 for a, b in triangle.edges()])


def scale_for(half, triangle, point):
    """Return a scale from which on owns_shifted is owns."""
    # The point does not matter for the scale, but it must be one.
    as_point(point)
    small, smaller = shift_of(half)
    ways = [b - a for a, b in triangle.edges()]
    # But for a factor, the side of the moved point at an edge is p * scale * scale + q * scale + r, with integers of
    # which p alone hangs on the point. With a scale above abs(q) + abs(r) it has the sign of the first that is not 0.
    return 1 + max([int(abs(way.cross(small)) + abs(way.cross(smaller))) for way in ways])
