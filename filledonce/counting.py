"""Counting owned samples without listing them, and the twin of a triangle."""

from filledonce.errors import InvalidNumber
from filledonce.grids import first_from
from filledonce.triangles import Triangle
from filledonce.wholes import is_whole


def floor_sum(many, top, add, bottom):
    """Return the sum of (top * i + add) // bottom for i from 0 to many less 1."""
    if not is_whole(many) or many < 0:
        raise InvalidNumber(many)
    if not is_whole(top):
        raise InvalidNumber(top)
    if not is_whole(add):
        raise InvalidNumber(add)
    if not is_whole(bottom) or bottom < 1:
        raise InvalidNumber(bottom)
    return sum_of_floors(many, top, add, bottom)


def sum_of_floors(many, top, add, bottom):
    """Return the sum of floor_sum, as Euclid finds a common divisor."""
    total = 0
    while True:
        total += many * (many - 1) // 2 * (top // bottom) + many * (add // bottom)
        rise = top % bottom
        start = add % bottom
        end = rise * many + start
        if end < bottom:
            return total
        # What is left are the points below a line from start to end: they are counted in columns instead of rows.
        many, top, add, bottom = end // bottom, bottom, end % bottom, rise


def amount(rule, triangle, grid, *, low=None, high=None):
    """Return how many samples of a grid, from row low to row high, a rule owns in a triangle."""
    for bound in (low, high):
        if bound is not None and not is_whole(bound):
            raise InvalidNumber(bound)
    heights = {corner.y: True for corner in triangle.corners()}
    levels = sorted([int(height) for height in heights])
    least = levels[0] if low is None else low
    most = levels[-1] if high is None else high
    total = 0
    for y in levels:
        if least <= y <= most and (y - grid.base.y) % grid.step == 0:
            total += row_amount(rule, triangle, grid, y)
    # Between the rows of two corners one edge makes all left ends and one all right ends.
    for under, over in zip(levels, levels[1:]):
        start = max([int(row) for row in (under + 1, least)])
        end = min([int(row) for row in (over - 1, most)])
        total += strip_amount(rule, triangle, grid, start, end)
    return total


def limit_of(rule, a, b, grid, y):
    """Return what an edge leaves for the samples of a row: one that uses up more is not owned.

    The samples of a row stand at base.x + step * i, and each i uses up step times the height of the edge. So, divided
    by this and rounded down, it is the greatest i at an edge that goes up, the greatest -i at one that goes down.
    """
    way = b - a
    slack = 0 if rule(way) else 1
    return way.x * (y - a.y) + way.y * (a.x - grid.base.x) - slack


def row_amount(rule, triangle, grid, y):
    """Return how many samples a rule owns in one row."""
    lefts = []
    rights = []
    for a, b in triangle.edges():
        limit = limit_of(rule, a, b, grid, y)
        if b.y < a.y:
            lefts.append(limit // (grid.step * (a.y - b.y)))
        elif b.y > a.y:
            rights.append(limit // (grid.step * (b.y - a.y)))
        elif limit < 0:
            return 0
    many = min([int(end) for end in lefts]) + min([int(end) for end in rights]) + 1
    # At a corner that neither of its edges owns the two ends pass one another.
    return many if many > 0 else 0


def strip_amount(rule, triangle, grid, low, high):
    """Return how many samples a rule owns in the rows from low to high, all between the same two corners."""
    first = first_from(low, grid.base.y, grid.step)
    if first > high:
        return 0
    rows = (high - first) // grid.step + 1
    total = rows
    for a, b in triangle.edges():
        if (a.y < first) != (b.y < first):
            limit = limit_of(rule, a, b, grid, first)
            total += sum_of_floors(rows, (b.x - a.x) * grid.step, limit, grid.step * abs(b.y - a.y))
    return total


def twin_of(triangle):
    """Return the triangle that makes a four-cornered field of two pairs of even sides with this one."""
    a, b, c = triangle.corners()
    return Triangle(b, c, b + c - a)
