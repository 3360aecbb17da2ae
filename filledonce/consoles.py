"""A console that executes rows of text on a history."""

from filledonce.errors import InvalidCommand
from filledonce.histories import History, is_name
from filledonce.nets import counted_owners, signed

DIGITS = "0123456789"
MOST_DIGITS = 100

# How many numbers stand behind a word.
NUMBERS = {"move": 3, "undo": 1, "redo": 1, "point": 1, "count": 2, "owners": 2, "rim": 0, "moves": 0}


class Console:
    """A history of a net, and a half by which owners are told."""

    def __init__(self, net, half):
        self.history = History(net)
        self.rule = half.twin()

    def execute(self, row):
        """Execute a row and return the answer."""
        if not isinstance(row, str):
            raise InvalidCommand(row)
        words = row.split(" ")
        word = words[0]
        rest = words[1:]
        if word in ("keep", "turn") and len(rest) == 1 and is_name(rest[0]):
            return self.answer_name(word, rest[0])
        if word not in NUMBERS or len(rest) != NUMBERS[word] or not all([is_number(part) for part in rest]):
            raise InvalidCommand(row)
        numbers = [int(part) for part in rest]
        if word in ("move", "undo", "redo"):
            return self.answer_change(word, numbers)
        return self.answer_question(word, numbers)

    def answer_name(self, word, name):
        """Keep moves under a name, or let kept ones stand again."""
        if word == "keep":
            self.history.keep(name)
            return "ok"
        return str(self.history.turn(name))

    def answer_change(self, word, numbers):
        """Make moves, or take them back."""
        if word == "undo":
            return str(self.history.undo(numbers[0]))
        if word == "redo":
            return str(self.history.redo(numbers[0]))
        index, x, y = numbers
        return written(self.history.move(index, (x, y)).pair())

    def answer_question(self, word, numbers):
        """Tell something of the net as it is now."""
        net = self.history.net_now()
        if word == "point":
            return written(net[numbers[0]].pair())
        if word == "count":
            return str(signed(self.rule, net, tuple(numbers)))
        if word == "owners":
            return written(counted_owners(self.rule, net, tuple(numbers)))
        if word == "rim":
            return written_ways(net.rim())
        return str(len(self.history))


def is_number(text):
    """Tell whether a text is a number as a row has it."""
    digits = text[1:] if text.startswith("-") else text
    if len(digits) < 1 or len(digits) > MOST_DIGITS or not all([digit in DIGITS for digit in digits]):
        return False
    return text == "0" or not digits.startswith("0")


def written(numbers):
    """Return numbers as a text, separated by blanks."""
    return " ".join([str(number) for number in numbers])


def written_ways(ways):
    """Return the ways of a rim as a text."""
    if len(ways) == 0:
        return "-"
    return " ".join([f"{i}>{j}" for i, j in ways])
