"""Sets of moves of a net's points, and which of them make it clean."""

from filledonce.errors import InvalidMenu, UnknownSet
from filledonce.nets import count_owners, faces
from filledonce.points import as_point, is_point
from filledonce.wholes import is_index

MOST_MOVES = 8


class Moves:
    """A net and a menu of at most 8 moves of its points."""

    def __init__(self, net, menu):
        check_menu(menu, len(net.points()))
        self.start = net.twin()
        self.menu = [(index, as_point(thing)) for index, thing in menu]

    def behind(self, picks):
        """Return a new net: that behind a set of moves."""
        if not is_set(picks, len(self.menu)):
            raise UnknownSet(picks)
        net = self.start.twin()
        for pick in picks:
            index, point = self.menu[pick]
            net[index] = point
        return net

    def good(self, half, samples):
        """Yield all sets whose net is clean, by size and then ascending."""
        for picks in all_sets(len(self.menu)):
            if is_clean(half, self.behind(picks), samples):
                yield picks

    def least(self, half, samples):
        """Return a list of the good sets of which no smaller part is good."""
        found = []
        for picks in self.good(half, samples):
            # A part has fewer moves and so came before; and if it is good, one of those found is a part of it.
            if not any([is_part(smaller, picks) for smaller in found]):
                found.append(picks)
        return found

    def faults(self, half, samples, picks):
        """Return a list of the samples at which the net of a set is not clean."""
        return faults_of(half, self.behind(picks), samples)

    def __len__(self):
        return len(self.menu)


def check_menu(menu, many):
    """Raise InvalidMenu for what is no list of at most 8 moves of so many points."""
    if not isinstance(menu, list) or len(menu) > MOST_MOVES:
        raise InvalidMenu(None)
    for number, thing in enumerate(menu):
        if not is_move(thing, many):
            raise InvalidMenu(number)


def is_move(thing, many):
    """Tell whether a value is a pair of an index of so many points and a point."""
    return isinstance(thing, tuple) and len(thing) == 2 and is_index(thing[0], many) and is_point(thing[1])


def is_set(thing, many):
    """Tell whether a value is a tuple of indexes of so many moves, ascending, without duplicates."""
    if not isinstance(thing, tuple) or not all([is_index(pick, many) for pick in thing]):
        return False
    return all([pick < after for pick, after in zip(thing, thing[1:])])


def is_part(smaller, picks):
    """Tell whether all moves of a set are in another one."""
    return all([pick in picks for pick in smaller])


def all_sets(many):
    """Return a list of all sets of so many moves, by size and then ascending."""
    sized = [()]
    found = [()]
    for size in range(many):
        sized = [(*picks, pick) for picks in sized for pick in range(many) if all([old < pick for old in picks])]
        found.extend(sized)
    return found


def faults_of(half, net, samples):
    """Return a list of the samples at which a net is not clean."""
    sides = faces(net)
    found = []
    for point in samples.points():
        against, along = count_owners(half, sides, point)
        if against > 1 or along > 0:
            found.append(point)
    return found


def is_clean(half, net, samples):
    """Tell whether no sample has owners that go with the clock, and none more than one other."""
    return len(faults_of(half, net, samples)) == 0
