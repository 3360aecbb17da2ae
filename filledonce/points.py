"""Points with integers, and what is asked of two or three of them."""

from filledonce.errors import InvalidPoint
from filledonce.wholes import is_whole


class Point:
    """A point of two integers of any size."""

    def __init__(self, x, y):
        if not is_whole(x) or not is_whole(y):
            raise InvalidPoint((x, y))
        self.x = x
        self.y = y

    @staticmethod
    def origin():
        """Return the point (0, 0)."""
        return Point(0, 0)

    def __eq__(self, other):
        return isinstance(other, Point) and self.x == other.x and self.y == other.y

    def __add__(self, other):
        by = operand(other)
        return Point(self.x + by.x, self.y + by.y)

    def __radd__(self, other):
        return self + other

    def __sub__(self, other):
        by = operand(other)
        return Point(self.x - by.x, self.y - by.y)

    def __rsub__(self, other):
        return operand(other) - self

    def __mul__(self, other):
        if not is_whole(other):
            raise TypeError("a point is multiplied by an integer only")
        return Point(self.x * other, self.y * other)

    def __rmul__(self, other):
        return self * other

    def cross(self, other):
        """Return the cross of this point and another one."""
        second = as_point(other)
        return self.x * second.y - self.y * second.x

    def pair(self):
        """Return the two numbers as a tuple."""
        return (self.x, self.y)


def is_point(thing):
    """Tell whether a value is a Point or a pair of integers that stands for one."""
    if isinstance(thing, Point):
        return True
    return isinstance(thing, tuple) and len(thing) == 2 and is_whole(thing[0]) and is_whole(thing[1])


def as_point(thing):
    """Return the Point that a value is or stands for."""
    if not is_point(thing):
        raise InvalidPoint(thing)
    if isinstance(thing, Point):
        return thing
    return Point(thing[0], thing[1])


def operand(thing):
    """Return the Point at the other side of a sign."""
    # NotImplemented would let a foreign object answer, where any other value must raise TypeError.
    if not is_point(thing):
        raise TypeError("a point goes with a point or a pair of integers only")
    return as_point(thing)


def side(a, b, point):
    """Return a number above 0 for a point left of the way from a to b, 0 for one on its line."""
    start = as_point(a)
    end = as_point(b)
    place = as_point(point)
    # Written out, as this is asked far more often than anything else and needs no new points.
    return (end.x - start.x) * (place.y - start.y) - (end.y - start.y) * (place.x - start.x)


def quarter(point):
    """Return the point turned by a quarter against the clock."""
    old = as_point(point)
    return Point(-old.y, old.x)
