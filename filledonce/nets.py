"""Nets: points and triples of them, which may be turned over, flat, or lie over one another."""

from filledonce.errors import InvalidNet, InvalidNumber, InvalidWays
from filledonce.grids import Samples, covered
from filledonce.points import Point, as_point, is_point, side
from filledonce.triangles import Triangle, is_left, owns
from filledonce.wholes import ascending, is_index, is_whole

MOST_ENTRIES = 100


class Net:
    """At most 100 points, and at most 100 triples of their indexes."""

    def __init__(self, points, triples):
        check_points(points)
        check_triples(triples, len(points))
        self.spots = [as_point(thing) for thing in points]
        self.threes = list(triples)

    def points(self):
        """Return a list of the points."""
        return list(self.spots)

    def triples(self):
        """Return a list of the triples."""
        return list(self.threes)

    def twin(self):
        """Return an equal net that can be changed on its own."""
        return Net(self.spots, self.threes)

    def rim(self):
        """Return a list of the ways along edges that are left when opposite ones are taken away together."""
        many = {}
        for a, b, c in self.threes:
            for way in [(a, b), (b, c), (c, a)]:
                many[way] = many.get(way, 0) + 1
        ways = ascending(list(many))
        return [(i, j) for i, j in ways for again in range(many[(i, j)] - many.get((j, i), 0))]

    def __len__(self):
        return len(self.threes)

    def __getitem__(self, at):
        if not is_index(at, len(self.spots)):
            raise InvalidNumber(at)
        return self.spots[at]

    def __setitem__(self, at, worth):
        if not is_index(at, len(self.spots)):
            raise InvalidNumber(at)
        self.spots[at] = as_point(worth)

    def __iter__(self):
        raise TypeError("a net is not iterated over, its points() and triples() are")

    def __eq__(self, other):
        return isinstance(other, Net) and self.spots == other.spots and self.threes == other.threes


def check_points(points):
    """Raise InvalidNet for what is no list of at most 100 points."""
    if not isinstance(points, list) or len(points) > MOST_ENTRIES:
        raise InvalidNet("points", None)
    for number, thing in enumerate(points):
        if not is_point(thing):
            raise InvalidNet("points", number)


def check_triples(triples, many):
    """Raise InvalidNet for what is no list of at most 100 triples of indexes of so many points."""
    if not isinstance(triples, list) or len(triples) > MOST_ENTRIES:
        raise InvalidNet("triples", None)
    for number, thing in enumerate(triples):
        if not is_triple(thing, many):
            raise InvalidNet("triples", number)


def is_triple(thing, many):
    """Tell whether a value is a tuple of three unlike indexes of so many points."""
    if not isinstance(thing, tuple) or len(thing) != 3:
        return False
    return all([is_index(index, many) for index in thing]) and len(set(thing)) == 3


def faces(net):
    """Return a list of pairs: a Triangle, and whether its triple goes against the clock; flat triples have none."""
    found = []
    for i, j, k in net.triples():
        turn = side(net[i], net[j], net[k])
        if turn != 0:
            found.append((Triangle(net[i], net[j], net[k]), turn > 0))
    return found


def count_owners(half, sides, place):
    """Return how many faces own a point and go against the clock, and how many own it and go with it."""
    found = [against for triangle, against in sides if owns(half, triangle, place)]
    return (found.count(True), found.count(False))


def counted_owners(half, net, point):
    """Return how many triples own a point and go against the clock, and how many own it and go with it."""
    place = as_point(point)
    return count_owners(half, faces(net), place)


def signed(half, net, point):
    """Return the signed count of a point."""
    against, along = counted_owners(half, net, point)
    return against - along


def turns(half, ways, point):
    """Return how often closed ways go round a point against the clock, less with the clock."""
    place = as_point(point)
    if not isinstance(ways, list):
        raise InvalidWays(None)
    for number, way in enumerate(ways):
        if not is_way(way):
            raise InvalidWays(number)
    return turns_round(half, [(as_point(a), as_point(b)) for a, b in ways], place)


def is_way(thing):
    """Tell whether a value is a pair of points."""
    return isinstance(thing, tuple) and len(thing) == 2 and is_point(thing[0]) and is_point(thing[1])


def turns_round(half, ways, place):
    """Return the number of turns of ways whose ends are known to be Points."""
    return sum([turn_of(half, a, b, place) for a, b in ways])


def turn_of(half, a, b, place):
    """Return 1 for a way that passes right of the moved point upwards, -1 for one downwards, else 0."""
    upwards = is_below(half, a, place)
    if upwards == is_below(half, b, place) or upwards != is_left(half, a, b, place):
        return 0
    return 1 if upwards else -1


def is_below(half, end, place):
    """Tell whether a point lies below a place that is moved by the shift of a half."""
    if end.y != place.y:
        return end.y < place.y
    # The shift goes upwards just if it goes to the left of the way (1, 0), that is, if this way is in.
    return half((1, 0))


def rim_turns(half, net, point):
    """Return how often the rim of a net goes round a point."""
    place = as_point(point)
    return turns_round(half, [(net[i], net[j]) for i, j in net.rim()], place)


def snapped(net, many):
    """Return a net with each number of each point brought to the nearest multiple of many."""
    if not is_whole(many) or many < 1:
        raise InvalidNumber(many)
    places = [Point(nearest(spot.x, many), nearest(spot.y, many)) for spot in net.points()]
    return Net(places, net.triples())


def nearest(number, many):
    """Return the nearest multiple of many, the greater one of two."""
    return (2 * number + many) // (2 * many) * many


def unlike(half, one, other, grid):
    """Return the Samples of a grid whose counted owners differ between two nets."""
    first = faces(one)
    second = faces(other)
    near = covered([triangle for triangle, against in first + second], grid)
    return Samples([point for point in near.points()
                    if count_owners(half, first, point) != count_owners(half, second, point)])
