"""Grids of samples, sets of samples, and the samples that a rule owns in a triangle."""

from filledonce.errors import InvalidGrid, InvalidSamples
from filledonce.points import Point, as_point, is_point
from filledonce.triangles import owns
from filledonce.wholes import ascending, is_whole

MOST_STEP = 10 ** 30


class Grid:
    """All points that are whole steps away from one point."""

    def __init__(self, step, at):
        if not is_whole(step) or step < 1 or step > MOST_STEP:
            raise InvalidGrid("step")
        if not is_point(at):
            raise InvalidGrid("at")
        start = as_point(at)
        self.step = step
        # The one sample with numbers from 0 to step less 1, so that grids with the same samples are kept alike.
        self.base = Point(start.x % step, start.y % step)

    @staticmethod
    def unit():
        """Return the grid of all points."""
        return Grid(1, Point.origin())

    def between(self, low, high):
        """Yield the samples from low to high, ascending by y and then by x."""
        least = as_point(low)
        most = as_point(high)
        left = first_from(least.x, self.base.x, self.step)
        # A box without columns is left at once, however many rows it has.
        if left <= most.x:
            for y in range(first_from(least.y, self.base.y, self.step), most.y + 1, self.step):
                for x in range(left, most.x + 1, self.step):
                    yield Point(x, y)

    def __contains__(self, x):
        if not is_point(x):
            return False
        way = as_point(x) - self.base
        return way.x % self.step == 0 and way.y % self.step == 0

    def __eq__(self, other):
        return isinstance(other, Grid) and self.step == other.step and self.base == other.base


class Samples:
    """A set of points."""

    def __init__(self, points):
        if not isinstance(points, list):
            raise InvalidSamples(None)
        for number, thing in enumerate(points):
            if not is_point(thing):
                raise InvalidSamples(number)
        places = [as_point(thing) for thing in points]
        self.pairs = {(x, y): True for y, x in ascending([(place.y, place.x) for place in places])}

    def points(self):
        """Return a list of the points, each once, ascending by y and then by x."""
        return [Point(x, y) for x, y in self.pairs]

    def __len__(self):
        return len(self.pairs)

    def __contains__(self, x):
        return is_point(x) and as_point(x).pair() in self.pairs

    def __eq__(self, other):
        return isinstance(other, Samples) and self.pairs == other.pairs

    def __le__(self, other):
        if not isinstance(other, Samples):
            return NotImplemented
        return all([pair in other.pairs for pair in self.pairs])

    def __or__(self, other):
        if not isinstance(other, Samples):
            return NotImplemented
        return Samples([*self.pairs, *other.pairs])

    def __and__(self, other):
        if not isinstance(other, Samples):
            return NotImplemented
        return Samples([pair for pair in self.pairs if pair in other.pairs])

    def __sub__(self, other):
        if not isinstance(other, Samples):
            return NotImplemented
        return Samples([pair for pair in self.pairs if pair not in other.pairs])


def first_from(least, base, step):
    """Return the least number that is at least this one and whole steps away from base."""
    return least + (base - least) % step


def owned(rule, triangle, grid):
    """Return the Samples of a grid that a rule owns in a triangle."""
    return Samples([point for point in samples_in(triangle, grid) if owns(rule, triangle, point)])


def covered(triangles, grid):
    """Return the Samples of a grid that lie within some of the triangles or on their edges."""
    return Samples([point for triangle in triangles for point in samples_in(triangle, grid)])


def samples_in(triangle, grid):
    """Return a list of the samples of a grid within a triangle or on its edges."""
    bottom = min([int(corner.y) for corner in triangle.corners()])
    top = max([int(corner.y) for corner in triangle.corners()])
    found = []
    for y in range(first_from(bottom, grid.base.y, grid.step), top + 1, grid.step):
        left, right = row_ends(triangle, y)
        for x in range(first_from(left, grid.base.x, grid.step), right + 1, grid.step):
            found.append(Point(x, y))
    return found


def row_ends(triangle, y):
    """Return the least and the greatest integer x that a row has within a triangle or on its edges."""
    # A triangle lies left of its edges, so its x are above those of edges that go down and below those that go up.
    down = [a.x - (b.x - a.x) * (y - a.y) // (a.y - b.y) for a, b in triangle.edges() if b.y < a.y]
    up = [a.x + (b.x - a.x) * (y - a.y) // (b.y - a.y) for a, b in triangle.edges() if b.y > a.y]
    return (max([int(x) for x in down]), min([int(x) for x in up]))
