"""Triangles, the points that a rule owns in them, and whether two lie apart."""

from filledonce.errors import Flat
from filledonce.points import as_point, is_point, side


class Triangle:
    """Three corners, not on one line, against the clock."""

    def __init__(self, a, b, c):
        first = as_point(a)
        second = as_point(b)
        third = as_point(c)
        turn = side(first, second, third)
        if turn == 0:
            raise Flat((first, second, third))
        if turn > 0:
            self.tips = [first, second, third]
        else:
            self.tips = [first, third, second]

    def corners(self):
        """Return a list of the corners, against the clock."""
        return list(self.tips)

    def edges(self):
        """Return a list of the pairs of corners that follow one another."""
        return [(self.tips[0], self.tips[1]), (self.tips[1], self.tips[2]), (self.tips[2], self.tips[0])]

    @property
    def area2(self):
        """Twice the area."""
        return side(self.tips[0], self.tips[1], self.tips[2])

    def moved(self, by):
        """Return the triangle with all corners moved by a point."""
        step = as_point(by)
        return Triangle(self.tips[0] + step, self.tips[1] + step, self.tips[2] + step)

    def __contains__(self, x):
        return is_point(x) and all([side(a, b, x) >= 0 for a, b in self.edges()])

    def __eq__(self, other):
        return isinstance(other, Triangle) and self.edges()[0] in other.edges() and self.edges()[1] in other.edges()


def owns(rule, triangle, point):
    """Tell whether a rule owns a point in a triangle."""
    place = as_point(point)
    for a, b in triangle.edges():
        if not is_left(rule, a, b, place):
            return False
    return True


def is_left(rule, a, b, place):
    """Tell whether a point is left of the way from a to b, or on its line with the way in the rule."""
    turn = side(a, b, place)
    return turn > 0 or (turn == 0 and rule(b - a))


def apart(one, other):
    """Tell whether two triangles have no inner point in common."""
    # Of two such triangles, a line along some edge of one of them has them on unlike sides.
    return is_cut_off(one, other) or is_cut_off(other, one)


def is_cut_off(triangle, other):
    """Tell whether some edge of a triangle has no part of another one at its inner side."""
    return any([all([side(a, b, corner) <= 0 for corner in other.corners()]) for a, b in triangle.edges()])
