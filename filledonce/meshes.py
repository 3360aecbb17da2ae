"""Meshes: rows of triangles of which no two have an inner point in common."""

from filledonce.directions import lowest
from filledonce.errors import InvalidMesh, InvalidNumber, Overlap
from filledonce.grids import Samples, covered
from filledonce.points import as_point, side
from filledonce.triangles import Triangle, apart, owns
from filledonce.wholes import is_index

MOST_TRIANGLES = 60


class Mesh:
    """At most 60 triangles that lie apart."""

    def __init__(self, triangles):
        if not isinstance(triangles, list) or len(triangles) > MOST_TRIANGLES:
            raise InvalidMesh(None)
        for number, thing in enumerate(triangles):
            if not isinstance(thing, Triangle):
                raise InvalidMesh(number)
        for number, triangle in enumerate(triangles):
            for other in range(number):
                if not apart(triangle, triangles[other]):
                    raise Overlap(number, other)
        self.pieces = list(triangles)

    def triangles(self):
        """Return a list of the triangles."""
        return list(self.pieces)

    def __len__(self):
        return len(self.pieces)

    def __getitem__(self, at):
        if not is_index(at, len(self.pieces)):
            raise InvalidNumber(at)
        return self.pieces[at]

    def __setitem__(self, at, worth):
        if not is_index(at, len(self.pieces)):
            raise InvalidNumber(at)
        if not isinstance(worth, Triangle):
            raise InvalidMesh(at)
        for other, piece in enumerate(self.pieces):
            if other != at and not apart(worth, piece):
                raise Overlap(at, other)
        self.pieces[at] = worth

    def __iter__(self):
        raise TypeError("a mesh is not iterated over, its triangles() are")

    def __eq__(self, other):
        return isinstance(other, Mesh) and self.pieces == other.pieces


def inside(mesh, point):
    """Tell whether all points near a point are within triangles of a mesh."""
    place = as_point(point)
    firsts = {}
    lasts = {}
    for triangle in mesh.triangles():
        if place in triangle:
            span = span_at(triangle, place)
            if span is None:
                return True
            first, last = span
            firsts[lowest(first).pair()] = True
            lasts[lowest(last).pair()] = True
    return len(firsts) > 0 and all([last in firsts for last in lasts])


def span_at(triangle, place):
    """Return the first and the last direction, against the clock, that a triangle covers at a point of its edges.

    None for a point within the triangle, on no edge.
    """
    corners = triangle.corners()
    for at in range(3):
        if corners[at] == place:
            return (corners[(at + 1) % 3] - place, corners[(at + 2) % 3] - place)
    for a, b in triangle.edges():
        if side(a, b, place) == 0:
            return (b - a, a - b)
    return None


def owners(rule, mesh, point):
    """Return a list of the indexes of the triangles in which a rule owns a point."""
    place = as_point(point)
    return [number for number, triangle in enumerate(mesh.triangles()) if owns(rule, triangle, place)]


def judged(rule, mesh, grid):
    """Return the Samples inside a mesh without an owner, and those with more than one."""
    lost = []
    doubled = []
    for point in covered(mesh.triangles(), grid).points():
        many = len(owners(rule, mesh, point))
        if many != 1 and inside(mesh, point):
            if many == 0:
                lost.append(point)
            else:
                doubled.append(point)
    return (Samples(lost), Samples(doubled))
