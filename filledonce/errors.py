"""The errors of the package, side by side under FillError.

The messages name no value: an integer may have more digits than Python writes.
"""


class FillError(ValueError):
    """The base of all errors of the package."""


class InvalidPoint(FillError):
    """Neither a Point nor a pair of integers."""

    def __init__(self, thing):
        super().__init__("this is no point")
        self.thing = thing


class InvalidNumber(FillError):
    """No integer, or one beyond its bounds."""

    def __init__(self, number):
        super().__init__("this is no such number")
        self.number = number


class NoDirection(FillError):
    """The point (0, 0), which goes no way."""

    def __init__(self, thing):
        super().__init__("this point is no direction")
        self.thing = thing


class InvalidTable(FillError):
    """Not eight truths, or no truth for one kind."""

    def __init__(self, thing):
        super().__init__("this makes no table")
        self.thing = thing


class InvalidHalf(FillError):
    """A part of a half that is none."""

    def __init__(self, part):
        super().__init__("a part of the half is wrong")
        self.part = part


class Flat(FillError):
    """Three points on one line."""

    def __init__(self, three):
        super().__init__("the three points lie on one line")
        self.three = three


class InvalidGrid(FillError):
    """A part of a grid that is none."""

    def __init__(self, part):
        super().__init__("a part of the grid is wrong")
        self.part = part


class InvalidSamples(FillError):
    """No list of points."""

    def __init__(self, number):
        super().__init__("these are no samples")
        self.number = number


class InvalidMesh(FillError):
    """No list of triangles, or a longer one than a mesh has."""

    def __init__(self, number):
        super().__init__("this makes no mesh")
        self.number = number


class Overlap(FillError):
    """Two triangles of a mesh with an inner point in common."""

    def __init__(self, number, other):
        super().__init__("two triangles have an inner point in common")
        self.number = number
        self.other = other


class InvalidNet(FillError):
    """Points or triples that make no net."""

    def __init__(self, part, number):
        super().__init__("this makes no net")
        self.part = part
        self.number = number


class InvalidWays(FillError):
    """No list of pairs of points."""

    def __init__(self, number):
        super().__init__("these are no ways")
        self.number = number


class InvalidRing(FillError):
    """No list of points, or one of a wrong length."""

    def __init__(self, number):
        super().__init__("this makes no ring")
        self.number = number


class InvalidSpans(FillError):
    """A part of a formula of spans that is no truth."""

    def __init__(self, part):
        super().__init__("a part of the formula is no truth")
        self.part = part


class InvalidValues(FillError):
    """Not three integers."""

    def __init__(self, number):
        super().__init__("these are not three integers")
        self.number = number


class InvalidPaper(FillError):
    """No list of points with indexes of a mesh."""

    def __init__(self, number):
        super().__init__("this is no paper")
        self.number = number


class NotShown(FillError):
    """A point whose one owner a paper does not tell."""

    def __init__(self, point):
        super().__init__("the owner of a point is not shown")
        self.point = point


class InvalidMenu(FillError):
    """No list of moves, or a longer one than a menu has."""

    def __init__(self, number):
        super().__init__("this is no menu of moves")
        self.number = number


class UnknownSet(FillError):
    """No set of moves of a menu."""

    def __init__(self, picks):
        super().__init__("this is no set of the menu")
        self.picks = picks


class NothingLeft(FillError):
    """No number of moves that can be taken back or made again."""

    def __init__(self, many):
        super().__init__("there are not so many moves left")
        self.many = many


class InvalidName(FillError):
    """No text of 1 to 8 letters a to z."""

    def __init__(self, name):
        super().__init__("this is no name")
        self.name = name


class UnknownName(FillError):
    """No name that was kept."""

    def __init__(self, name):
        super().__init__("nothing is kept under this name")
        self.name = name


class InvalidCall(FillError):
    """No call that a trial can do."""

    def __init__(self, call):
        super().__init__("this is no call")
        self.call = call


class InvalidCommand(FillError):
    """No row that a console can execute."""

    def __init__(self, row):
        super().__init__("this is no command")
        self.row = row
