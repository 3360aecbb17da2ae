"""Which rules are right for all meshes, and a least mesh for each of the others."""

from filledonce.directions import SIGNS
from filledonce.meshes import Mesh, inside, owners
from filledonce.points import Point, quarter
from filledonce.rules import Half, half_of
from filledonce.triangles import Triangle


def is_right(rule):
    """Tell whether in every mesh every point inside has exactly one owner."""
    return isinstance(rule, Half) or half_of(rule) is not None


def shows(rule, mesh, point):
    """Tell whether a point is inside a mesh and has not exactly one owner."""
    return inside(mesh, point) and len(owners(rule, mesh, point)) != 1


def faulty(rule):
    """Return None for a right rule, else a least mesh and a point that show that it is not."""
    if is_right(rule):
        return None
    for kind in range(4):
        if rule[kind] == rule[kind + 4]:
            return (mesh_beside(kind), Point.origin())
    return (mesh_around(kinds_around(rule)), Point.origin())


def mesh_beside(kind):
    """Return a mesh of two triangles, with (0, 0) on their common edge, which goes along a kind."""
    x, y = SIGNS[kind]
    end = Point(x, y)
    start = end * -1
    return Mesh([Triangle(start, end, quarter(end)), Triangle(end, start, quarter(start))])


def kinds_around(table):
    """Return three kinds that are in, each less than half a turn ahead of the next one round.

    There are such kinds if of each two opposite ones just one is in, and those in are not four that follow one another.
    """
    inner = [kind for kind in range(8) if table[kind]]
    found = [(one, two, three) for one in inner for two in inner for three in inner
             if 0 < two - one < 4 and 0 < three - two < 4 and 0 < one + 8 - three < 4]
    return found[0]


def mesh_around(kinds):
    """Return a mesh of three triangles that meet at (0, 0), with edges that go out from it along three kinds."""
    # Each edge is owned on the way out and not on the way back, so no triangle owns the point in their midst.
    ends = [SIGNS[kind] for kind in kinds]
    centre = Point.origin()
    return Mesh([Triangle(centre, ends[at], ends[(at + 1) % 3]) for at in range(3)])
