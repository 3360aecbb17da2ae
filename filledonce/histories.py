"""Histories: a net with the moves that were made, taken back and kept, and trials of them."""

from filledonce.errors import InvalidCall, InvalidName, NothingLeft, UnknownName
from filledonce.points import as_point
from filledonce.wholes import is_whole

LETTERS = "abcdefghijklmnopqrstuvwxyz"
MOST_LETTERS = 8


class History:
    """A net, the moves that stand, those that can be made again, and those kept under names."""

    def __init__(self, net):
        self.start = net.twin()
        self.done = []
        self.later = []
        self.names = {}

    def move(self, index, point):
        """Move a point and return the one that stood there."""
        before = self.net_now()[index]
        self.done = [*self.done, (index, as_point(point))]
        self.later = []
        return before

    def undo(self, many):
        """Take back the last moves and return how many stand."""
        if not is_many(many, len(self.done)):
            raise NothingLeft(many)
        self.later = self.done[-many:] + self.later
        self.done = self.done[:-many]
        return len(self.done)

    def redo(self, many):
        """Make again the moves that were taken back last and return how many stand."""
        if not is_many(many, len(self.later)):
            raise NothingLeft(many)
        self.done = self.done + self.later[:many]
        self.later = self.later[many:]
        return len(self.done)

    def moves(self):
        """Return a list of the moves that stand, as pairs of an index and a point."""
        return list(self.done)

    def net_now(self):
        """Return a twin of the net as it is now."""
        net = self.start.twin()
        for index, point in self.done:
            net[index] = point
        return net

    def keep(self, name):
        """Keep the moves that stand under a name."""
        if not is_name(name):
            raise InvalidName(name)
        self.names = {**self.names, name: self.done}

    def turn(self, name):
        """Let the moves that were kept under a name stand again and return how many they are."""
        if not isinstance(name, str) or name not in self.names:
            raise UnknownName(name)
        self.done = self.names[name]
        self.later = []
        return len(self.done)

    def kept(self):
        """Return a list of the names in the order in which they were first kept."""
        return list(self.names)

    def __len__(self):
        return len(self.done)


class Trial:
    """A block behind which a history is as it was ahead of it, unless it is held fast."""

    def __init__(self, history):
        self.history = history
        self.held = None

    def __enter__(self):
        # A history replaces its lists and its dict and never changes them, so they need no copies.
        self.done = self.history.done
        self.later = self.history.later
        self.names = self.history.names
        self.held = None
        return self

    def hold_fast(self):
        """Let the history stay as it is behind the block."""
        self.held = True

    def __exit__(self, kind, value, trace):
        if self.held is None:
            self.history.done = self.done
            self.history.later = self.later
            self.history.names = self.names


def is_many(value, most):
    """Tell whether a value is an integer from 1 to most."""
    return is_whole(value) and 1 <= value <= most


def is_name(thing):
    """Tell whether a value is a text of 1 to 8 letters a to z."""
    if not isinstance(thing, str) or len(thing) < 1 or len(thing) > MOST_LETTERS:
        return False
    return all([letter in LETTERS for letter in thing])


def tried(history, calls, *, fast=False):
    """Do a list of calls in a trial and return a list of what they returned."""
    found = []
    with Trial(history) as trial:
        for call in calls:
            found.append(do_call(history, call))
        if fast:
            trial.hold_fast()
    return found


def do_call(history, call):
    """Do one call and return what it returned."""
    if not isinstance(call, tuple) or len(call) < 2 or not isinstance(call[0], str):
        raise InvalidCall(call)
    word = call[0]
    if word == "move" and len(call) == 3:
        return history.move(call[1], call[2])
    if word not in ("undo", "redo", "keep", "turn") or len(call) != 2:
        raise InvalidCall(call)
    if word == "undo":
        return history.undo(call[1])
    if word == "redo":
        return history.redo(call[1])
    if word == "keep":
        return history.keep(call[1])
    return history.turn(call[1])
