"""Formulas of spans: triangles that are filled row by row, with or without the ends."""

from filledonce.errors import InvalidSpans
from filledonce.grids import Samples, samples_in
from filledonce.points import Point, as_point, side
from filledonce.rules import Half
from filledonce.witnesses import mesh_beside


class Spans:
    """Whether the left and the right ends of all rows, and the lowest and the highest row, are taken."""

    def __init__(self, left, right, bottom, top):
        for part, thing in [("left", left), ("right", right), ("bottom", bottom), ("top", top)]:
            if not isinstance(thing, bool):
                raise InvalidSpans(part)
        self.left = left
        self.right = right
        self.bottom = bottom
        self.top = top

    def takes(self, triangle, point):
        """Tell whether a point is taken in a triangle."""
        place = as_point(point)
        return self.has_row(triangle, place.y) and self.has_between_ends(triangle, place)

    def has_row(self, triangle, y):
        """Tell whether points of a row may be taken in a triangle."""
        lowest = min([int(corner.y) for corner in triangle.corners()])
        highest = max([int(corner.y) for corner in triangle.corners()])
        return lowest < y < highest or (y == lowest and self.bottom) or (y == highest and self.top)

    def has_between_ends(self, triangle, place):
        """Tell whether a point lies between the ends of its row, or at one that is taken."""
        # A triangle lies left of its edges, so the left ends of its rows lie on edges that go down.
        for a, b in triangle.edges():
            turn = side(a, b, place)
            if b.y < a.y and (turn < 0 or (turn == 0 and not self.left)):
                return False
            if b.y > a.y and (turn < 0 or (turn == 0 and not self.right)):
                return False
        return True

    def filled(self, triangle, grid):
        """Return the Samples of a grid that are taken in a triangle."""
        return Samples([point for point in samples_in(triangle, grid) if self.takes(triangle, point)])

    @property
    def is_right(self):
        """Whether in every mesh every point inside is taken by exactly one triangle."""
        return self.left != self.right and self.bottom != self.top

    def half(self):
        """Return the half that owns what is taken, or None if there is none."""
        if not self.is_right:
            return None
        # Edges that go down own the left ends; level ones that go left own the highest row.
        if self.left:
            return Half((-1, 0), self.top)
        return Half((1, 0), self.bottom)

    def faulty(self):
        """Return None for a right formula, else a mesh of two triangles and a point that show that it is not."""
        if self.is_right:
            return None
        # The point is at a left and at a right end, or on a lowest and on a highest row.
        if self.left == self.right:
            return (mesh_beside(2), Point.origin())
        return (mesh_beside(0), Point.origin())

    def __eq__(self, other):
        return (isinstance(other, Spans) and self.left == other.left and self.right == other.right
                and self.bottom == other.bottom and self.top == other.top)
