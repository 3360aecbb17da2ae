"""Rules: whether an edge that goes some way owns the samples that lie on it."""

from filledonce.directions import SIGNS, as_direction, is_direction, kind_of, lowest
from filledonce.errors import InvalidHalf, InvalidNumber, InvalidTable
from filledonce.points import Point, quarter
from filledonce.wholes import is_index

AXES = ((1, 0), (0, 1), (-1, 0), (0, -1))
KINDS = 8


class Rule:
    """What tables and halves have in common."""

    def __call__(self, direction):
        return self.has(as_direction(direction))

    def __le__(self, other):
        if not isinstance(other, Rule):
            return NotImplemented
        ways = ways_near(self.rays() + other.rays())
        return all([other.has(way) for way in ways if self.has(way)])

    def has(self, way):
        """Tell whether a direction, a Point, is in."""
        raise NotImplementedError("tables and halves tell this")

    def rays(self):
        """Return pairs, each two neighbours less than half a turn apart, between which all directions are alike."""
        raise NotImplementedError("tables and halves tell this")


class Table(Rule):
    """A rule that tells directions apart by their kind."""

    def __init__(self, kinds):
        if not is_eight_truths(kinds):
            raise InvalidTable(kinds)
        self.truths = list(kinds)

    @staticmethod
    def nothing():
        """Return the table with no kind in."""
        return Table([False for kind in range(KINDS)])

    def kinds(self):
        """Return a list of the eight truths."""
        return list(self.truths)

    def has(self, way):
        """Tell whether a direction is in."""
        return self.truths[kind_of(way)]

    def rays(self):
        """Return the pairs between which all directions are of one kind."""
        return list(AXES)

    def __eq__(self, other):
        return isinstance(other, Table) and self.truths == other.truths

    def __len__(self):
        return len([truth for truth in self.truths if truth])

    def __getitem__(self, at):
        if not is_index(at, KINDS):
            raise InvalidNumber(at)
        return self.truths[at]

    def __setitem__(self, at, worth):
        if not is_index(at, KINDS):
            raise InvalidNumber(at)
        if not isinstance(worth, bool):
            raise InvalidTable(worth)
        self.truths[at] = worth

    def __iter__(self):
        raise TypeError("a table is not iterated over, its kinds() are")

    def __invert__(self):
        return Table([not truth for truth in self.truths])


class Half(Rule):
    """A rule that has all directions left of a line in, and one of the two on it."""

    def __init__(self, way, ahead):
        self.way = way
        self.ahead = ahead

    @property
    def way(self):
        """The way of the line, always shortest."""
        return self.heading

    @way.setter
    def way(self, value):
        if not is_direction(value):
            raise InvalidHalf("way")
        self.heading = lowest(value)

    @property
    def ahead(self):
        """Whether the way itself is in, else the one against it."""
        return self.onward

    @ahead.setter
    def ahead(self, value):
        if not isinstance(value, bool):
            raise InvalidHalf("ahead")
        self.onward = value

    def twin(self):
        """Return an equal half that can be changed on its own."""
        return Half(self.heading, self.onward)

    def has(self, way):
        """Tell whether a direction is in."""
        turn = self.heading.cross(way)
        if turn != 0:
            return turn > 0
        goes_along = self.heading.x * way.x + self.heading.y * way.y > 0
        return goes_along == self.onward

    def rays(self):
        """Return the pairs along the line and square to it."""
        along = self.heading
        left = quarter(along)
        return [along.pair(), left.pair(), (along * -1).pair(), (left * -1).pair()]

    def __eq__(self, other):
        return isinstance(other, Half) and self.heading == other.heading and self.onward == other.onward


def is_eight_truths(thing):
    """Tell whether a value is a list or tuple of eight truths."""
    if not isinstance(thing, (list, tuple)) or len(thing) != KINDS:
        return False
    return all([isinstance(truth, bool) for truth in thing])


def ways_near(rays):
    """Return Points of which one goes along each of the rays, and one between each two neighbours."""
    # Two neighbours have their sum between them, and a ray goes the same way as its double.
    sums = {(x + right, y + up): True for x, y in rays for right, up in rays if (x, y) != (-right, -up)}
    return [Point(x, y) for x, y in sums]


def all_tables():
    """Yield all 256 tables, in the order of the numbers that their truths write."""
    for number in range(256):
        yield Table([(number >> kind) & 1 == 1 for kind in range(KINDS)])


def set_part(half, part, thing):
    """Set the part of a half with this name."""
    if not isinstance(part, str):
        raise InvalidHalf(part)
    if part == "way":
        half.way = thing
    elif part == "ahead":
        half.ahead = thing
    else:
        raise InvalidHalf(part)


def table_of(half):
    """Return the table with the same directions as a half, or None."""
    if half.way.x != 0 and half.way.y != 0:
        return None
    return Table([half(signs) for signs in SIGNS])


def half_of(table):
    """Return the half with the same directions as a table, or None."""
    for way in AXES:
        for ahead in (True, False):
            half = Half(way, ahead)
            if table_of(half) == table:
                return half
    return None
