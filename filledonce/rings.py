"""Rings: closed ways along points, and the samples that they go round."""

from filledonce.errors import InvalidRing
from filledonce.grids import Samples, covered
from filledonce.nets import Net, faces, turns_round
from filledonce.points import as_point, is_point

MOST_POINTS = 60


class Ring:
    """A closed way along 1 to 60 points, and back to the first."""

    def __init__(self, points):
        if not isinstance(points, list) or len(points) < 1 or len(points) > MOST_POINTS:
            raise InvalidRing(None)
        for number, thing in enumerate(points):
            if not is_point(thing):
                raise InvalidRing(number)
        self.stops = [as_point(thing) for thing in points]

    def points(self):
        """Return a list of the points."""
        return list(self.stops)

    def ways(self):
        """Return a list of the pairs of each point and the next, the last with the first."""
        many = len(self.stops)
        return [(self.stops[at], self.stops[(at + 1) % many]) for at in range(many)]

    def turned(self):
        """Return the ring with the points in the opposite order."""
        return Ring(self.stops[::-1])

    @property
    def area2(self):
        """Twice the area, signed."""
        return sum([a.cross(b) for a, b in self.ways()])

    def turns(self, half, point):
        """Return how often the ring goes round a point against the clock, less with the clock."""
        place = as_point(point)
        return turns_round(half, self.ways(), place)

    def fan(self, point):
        """Return a net with this point as its last one, and a triple of it and each two that follow one another."""
        hub = as_point(point)
        many = len(self.stops)
        # The way of a single point goes back to itself, so it makes no triple of unlike indexes.
        triples = [(many, at, (at + 1) % many) for at in range(many) if many > 1]
        return Net([*self.stops, hub], triples)

    def __len__(self):
        return len(self.stops)

    def __eq__(self, other):
        return isinstance(other, Ring) and self.stops == other.stops


def filled(half, ring, grid, *, odd=False):
    """Return the Samples of a grid with a number of turns that is not 0, or, with odd, that is odd."""
    # Any fan has turns for its signed counts, so samples outside its triangles have none.
    fan_faces = faces(ring.fan(ring.points()[0]))
    near = covered([triangle for triangle, against in fan_faces], grid)
    return Samples([point for point in near.points() if is_filled(ring.turns(half, point), odd)])


def is_filled(many, odd):
    """Tell whether so many turns fill a sample."""
    if odd:
        return many % 2 == 1
    return many != 0
