"""9.1 and 9.2: formulas of spans, which of them are right, their halves, and meshes for the others."""

import fractions
import itertools
import random
import unittest

from filledonce.errors import InvalidPoint, InvalidSpans
from filledonce.grids import Grid, Samples, owned
from filledonce.meshes import Mesh, inside
from filledonce.points import Point
from filledonce.rules import Half
from filledonce.spans import Spans
from filledonce.triangles import Triangle, owns
from tests.common import GREAT, NO_POINTS, NO_TRUTHS, TRUTHS, Case, square

PARTS = ["left", "right", "bottom", "top"]

ALL = list(itertools.product(TRUTHS, repeat=4))

# With a level edge below, above, and none, the middle corner at the left and at the right, and very thin ones.
CORNERS = [[(0, 0), (4, 0), (0, 4)], [(0, 0), (4, 0), (7, 3)], [(-3, -2), (2, -2), (-5, 1)],
           [(0, 4), (4, 4), (2, 0)], [(-4, -1), (1, -1), (3, -5)],
           [(0, 0), (3, 2), (1, 5)], [(0, 0), (-3, 2), (1, 5)], [(-2, -3), (4, -1), (-1, 3)], [(0, 0), (5, 1), (-4, 2)],
           [(0, 0), (1, 3), (1, 4)], [(0, 0), (0, 5), (1, 2)]]


def ends_by_hand(corners, y):
    """The least and the greatest x of a row, as fractions, of all edges that meet it."""
    found = []
    for a, b in itertools.combinations(corners, 2):
        if a[1] == b[1] == y:
            found += [a[0], b[0]]
        elif a[1] != b[1] and min(a[1], b[1]) <= y <= max(a[1], b[1]):
            found.append(a[0] + fractions.Fraction((b[0] - a[0]) * (y - a[1]), b[1] - a[1]))
    return min(found), max(found)


def takes_by_hand(parts, corners, point):
    left, right, bottom, top = parts
    x, y = point
    low, high = min(corner[1] for corner in corners), max(corner[1] for corner in corners)
    if y < low or y > high:
        return False
    first, last = ends_by_hand(corners, y)
    return ((y > low or bottom) and (y < high or top)
            and (x > first or (x == first and left)) and (x < last or (x == last and right)))


def mixed_corners():
    """Corners of triangles, the same in every run."""
    source = random.Random(47)
    found = list(CORNERS)
    while len(found) < 40:
        corners = [(source.randint(-5, 6), source.randint(-5, 6)) for at in range(3)]
        (ax, ay), (bx, by), (cx, cy) = corners
        if (bx - ax) * (cy - ay) != (by - ay) * (cx - ax):
            found.append(corners)
    return found


class MakingTest(Case):
    def test_attributes(self):
        for parts in ALL:
            for spans in [Spans(*parts), Spans(**dict(zip(reversed(PARTS), reversed(parts))))]:
                for part, truth in zip(PARTS, parts):
                    self.assert_truth(getattr(spans, part), truth)

    def test_no_truth(self):
        for thing in NO_TRUTHS:
            for at in range(4):
                for parts in ALL[::5]:
                    passed = list(parts)
                    passed[at] = thing
                    self.assertEqual(self.refused(InvalidSpans, Spans, *passed).part, PARTS[at])
                    # All others behind it are wrong, too.
                    passed[at:] = [thing] * (4 - at)
                    self.assertEqual(self.refused(InvalidSpans, Spans, *passed).part, PARTS[at])

    def test_equality(self):
        for one, other in itertools.product(ALL, repeat=2):
            if one == other:
                self.assert_equal_both_ways(Spans(*one), Spans(*other))
            else:
                self.assert_unlike_both_ways(Spans(*one), Spans(*other))
        for parts in ALL:
            spans = Spans(*parts)
            self.assert_equals_no_foreign_value(spans, parts, list(parts), spans.half(), Half((1, 0), True))


class TakesTest(Case):
    def test_all_formulas_on_all_kinds_of_triangles(self):
        for corners in mixed_corners():
            triangle = Triangle(*corners)
            for parts in ALL:
                spans = Spans(*parts)
                for point in square(-7, 8):
                    self.assert_truth(spans.takes(triangle, point), takes_by_hand(parts, corners, point))

    def test_a_level_edge_below(self):
        triangle = Triangle((0, 0), (4, 0), (0, 4))
        for left, right, bottom, top in ALL:
            spans = Spans(left, right, bottom, top)
            self.assert_truth(spans.takes(triangle, (1, 1)), True)
            self.assert_truth(spans.takes(triangle, (0, 2)), left)
            self.assert_truth(spans.takes(triangle, (2, 2)), right)
            self.assert_truth(spans.takes(triangle, (2, 0)), bottom)
            self.assert_truth(spans.takes(triangle, (0, 0)), bottom and left)
            self.assert_truth(spans.takes(triangle, (4, 0)), bottom and right)
            self.assert_truth(spans.takes(triangle, (0, 4)), top and left and right)
            for point in [(-1, 2), (3, 2), (1, -1), (0, 5), (5, 0), (-1, 0)]:
                self.assert_truth(spans.takes(triangle, point), False)

    def test_a_level_edge_above(self):
        triangle = Triangle((-4, -1), (1, -1), (0, -5))
        for left, right, bottom, top in ALL:
            spans = Spans(left, right, bottom, top)
            self.assert_truth(spans.takes(triangle, (0, -1)), top)
            self.assert_truth(spans.takes(triangle, (-4, -1)), top and left)
            self.assert_truth(spans.takes(triangle, (1, -1)), top and right)
            self.assert_truth(spans.takes(triangle, (0, -5)), bottom and left and right)
            self.assert_truth(spans.takes(triangle, (-1, -4)), left)
            self.assert_truth(spans.takes(triangle, (0, -4)), True)

    def test_the_middle_corner_is_an_end_like_others(self):
        for left, right, bottom, top in ALL:
            spans = Spans(left, right, bottom, top)
            self.assert_truth(spans.takes(Triangle((0, 0), (3, 2), (1, 5)), (3, 2)), right)
            self.assert_truth(spans.takes(Triangle((0, 0), (-3, 2), (1, 5)), (-3, 2)), left)

    def test_ends_between_two_integers(self):
        # On the row 1 the ends are 1/3 and 5/2.
        triangle = Triangle((0, 0), (5, 2), (2, 6))
        for parts in ALL:
            found = [Spans(*parts).takes(triangle, (x, 1)) for x in range(-1, 5)]
            self.assertEqual(found, [False, False, True, True, False, False])

    def test_thirty_digits(self):
        triangle = Triangle((0, 0), (3 * GREAT, GREAT), (0, 2 * GREAT))
        for left, right, bottom, top in ALL:
            spans = Spans(left, right, bottom, top)
            self.assert_truth(spans.takes(triangle, (3 * GREAT - 3, GREAT - 1)), right)
            self.assert_truth(spans.takes(triangle, (3 * GREAT - 4, GREAT - 1)), True)
            self.assert_truth(spans.takes(triangle, (3 * GREAT - 2, GREAT - 1)), False)
            self.assert_truth(spans.takes(triangle, (0, GREAT)), left)

    def test_points_and_names(self):
        triangle = Triangle((0, 0), (4, 0), (0, 4))
        spans = Spans(True, False, True, False)
        self.assert_truth(spans.takes(point=Point(0, 0), triangle=triangle), True)
        self.assert_truth(spans.takes(triangle, Point(2, 2)), False)

    def test_no_point(self):
        triangle = Triangle((0, 0), (4, 0), (0, 4))
        for thing in NO_POINTS:
            self.assertIs(self.refused(InvalidPoint, Spans(*ALL[5]).takes, triangle, thing).thing, thing)


class FilledTest(Case):
    def test_it_is_what_takes_tells(self):
        grids = [Grid.unit(), Grid(2, (0, 0)), Grid(2, (1, -1)), Grid(3, (-1, 1))]
        for corners, parts in itertools.product(mixed_corners()[::2], ALL):
            spans, triangle = Spans(*parts), Triangle(*corners)
            for grid in grids:
                found = spans.filled(triangle, grid)
                self.assertIs(type(found), Samples)
                self.assert_points(found.points(), [point for point in square(-6, 7)
                                                    if point in grid and takes_by_hand(parts, corners, point)])

    def test_names(self):
        found = Spans(True, False, True, False).filled(grid=Grid.unit(), triangle=Triangle((0, 0), (2, 0), (0, 2)))
        self.assert_points(found.points(), [(0, 0), (1, 0), (0, 1)])

    def test_a_great_step(self):
        found = Spans(True, True, True, True).filled(Triangle((0, 0), (GREAT, 0), (0, GREAT)), Grid(10 ** 30, (0, 0)))
        self.assert_points(found.points(), [(0, 0), (10 ** 30, 0), (0, 10 ** 30)])


class RightTest(Case):
    def test_four_are_right(self):
        for parts in ALL:
            left, right, bottom, top = parts
            self.assert_truth(Spans(*parts).is_right, left != right and bottom != top)
        self.assertEqual(len([parts for parts in ALL if Spans(*parts).is_right]), 4)

    def test_half_owns_the_same(self):
        for parts in ALL:
            spans = Spans(*parts)
            half = spans.half()
            if not spans.is_right:
                self.assertIsNone(half)
                continue
            self.assertIs(type(half), Half)
            for corners in mixed_corners():
                triangle = Triangle(*corners)
                for point in square(-6, 7):
                    self.assertIs(owns(half, triangle, point), spans.takes(triangle, point))
                self.assertEqual(owned(half, triangle, Grid.unit()), spans.filled(triangle, Grid.unit()))

    def test_the_four_halves(self):
        found = {parts: Spans(*parts).half() for parts in ALL if Spans(*parts).is_right}
        self.assertEqual({parts: (half.way.pair(), half.ahead) for parts, half in found.items()},
                         {(True, False, True, False): ((-1, 0), False), (True, False, False, True): ((-1, 0), True),
                          (False, True, True, False): ((1, 0), True), (False, True, False, True): ((1, 0), False)})

    def test_a_half_can_be_changed(self):
        spans = Spans(True, False, True, False)
        spans.half().way = (3, 4)
        self.assertEqual(spans.half(), Half((-1, 0), False))

    def test_faulty(self):
        for parts in ALL:
            spans = Spans(*parts)
            found = spans.faulty()
            if spans.is_right:
                self.assertIsNone(found)
                continue
            self.assertIs(type(found), tuple)
            mesh, point = found
            self.assertIs(type(mesh), Mesh)
            self.assertIs(type(point), Point)
            self.assertEqual(len(mesh), 2)
            self.assert_truth(inside(mesh, point), True)
            taken = [triangle for triangle in mesh.triangles() if spans.takes(triangle, point)]
            self.assertNotEqual(len(taken), 1)

    def test_right_ones_take_each_point_inside_once(self):
        centre = (1, 1)
        round_it = [(4, 1), (3, 4), (1, 5), (-2, 3), (-3, 1), (-1, -2), (1, -3), (5, -2)]
        mesh = Mesh([Triangle(centre, a, b) for a, b in zip(round_it, round_it[1:] + round_it[:1])])
        for parts in ALL:
            spans = Spans(*parts)
            many = [sum(spans.takes(triangle, point) for triangle in mesh.triangles())
                    for point in square(-4, 6) if inside(mesh, point)]
            self.assertIs(set(many) == {1}, spans.is_right)


if __name__ == "__main__":
    unittest.main()
