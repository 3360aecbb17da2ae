"""Directions: their kinds, their shortest points, and their order round."""

from filledonce.errors import NoDirection
from filledonce.points import Point, as_point, is_point
from filledonce.wholes import common_divisor, sign

# The signs of x and y of each kind; the index is the kind.
SIGNS = ((1, 0), (1, 1), (0, 1), (-1, 1), (-1, 0), (-1, -1), (0, -1), (1, -1))


def is_direction(thing):
    """Tell whether a value is a point, or stands for one, that is not (0, 0)."""
    return is_point(thing) and as_point(thing).pair() != (0, 0)


def as_direction(thing):
    """Return the Point that a direction is or stands for."""
    way = as_point(thing)
    if way.x == 0 and way.y == 0:
        raise NoDirection(thing)
    return way


def kind_of(direction):
    """Return the kind of a direction, a number from 0 to 7."""
    way = as_direction(direction)
    return SIGNS.index((sign(way.x), sign(way.y)))


def lowest(direction):
    """Return the shortest point with integers in the same direction."""
    way = as_direction(direction)
    parts = common_divisor(way.x, way.y)
    return Point(way.x // parts, way.y // parts)


def sorted_around(directions):
    """Return a list of the directions in order against the clock, beginning with (+, 0)."""
    placed = []
    for thing in directions:
        way = as_direction(thing)
        placed.insert(place_for(way, placed), way)
    return placed


def place_for(way, placed):
    """Return the index in a sorted list at which a direction stands, behind those alike."""
    low = 0
    high = len(placed)
    while low < high:
        middle = (low + high) // 2
        if comes_before(way, placed[middle]):
            high = middle
        else:
            low = middle + 1
    return low


def comes_before(way, other):
    """Tell whether a direction is met before another one, going round from (+, 0)."""
    kind = kind_of(way)
    other_kind = kind_of(other)
    if kind != other_kind:
        return kind < other_kind
    # Within one kind the two are less than half a turn apart, so the cross tells their order.
    return way.cross(other) > 0
