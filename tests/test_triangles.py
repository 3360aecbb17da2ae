"""3.1, 3.2 and apart of 5.1: triangles, owned points, triangles that lie apart."""

import fractions
import itertools
import unittest

from filledonce.errors import Flat, InvalidPoint
from filledonce.points import Point
from filledonce.rules import Half, Table, all_tables
from filledonce.triangles import Triangle, apart, owns
from tests.common import GREAT, NO_POINTS, TRUTHS, Case, pairs, square

CORNERS = [(0, 0), (5, 1), (2, 6)]

HALVES = [Half(way, ahead) for way in [(1, 0), (0, 1), (-1, 0), (0, -1), (2, 1), (-1, 1), (-3, -4), (5, -1)]
          for ahead in TRUTHS]


def cross(a, b, point):
    return (b[0] - a[0]) * (point[1] - a[1]) - (b[1] - a[1]) * (point[0] - a[0])


def small_triangles(low, high):
    """All triangles with corners from low to high, in the order in which combinations tells them."""
    return [three for three in itertools.combinations(square(low, high), 3) if cross(*three) != 0]


def cut(field, a, b):
    """The part of a field of points that is left of the way from a to b."""
    kept = []
    for one, other in zip(field, field[1:] + field[:1]):
        first, last = cross(a, b, one), cross(a, b, other)
        if first >= 0:
            kept.append(one)
        if first * last < 0:
            part = fractions.Fraction(first, first - last)
            kept.append((one[0] + part * (other[0] - one[0]), one[1] + part * (other[1] - one[1])))
    return kept


def common_area2(one, other):
    """Twice the area that two triangles have in common."""
    field = pairs(one.corners())
    for a, b in other.edges():
        field = cut(field, a.pair(), b.pair())
    return sum(cross((0, 0), a, b) for a, b in zip(field, field[1:] + field[:1]))


class MakingTest(Case):
    def test_corners_in_any_order(self):
        for a, b, c in itertools.permutations(CORNERS):
            triangle = Triangle(a, b, c)
            round_about = [a, b, c] if cross(a, b, c) > 0 else [a, c, b]
            self.assert_points(triangle.corners(), round_about)
            self.assertEqual(triangle.area2, 28)

    def test_points_and_pairs_and_names(self):
        for triangle in [Triangle(Point(0, 0), (5, 1), Point(2, 6)), Triangle(c=(2, 6), a=(0, 0), b=(5, 1))]:
            self.assert_points(triangle.corners(), CORNERS)

    def test_no_point(self):
        for thing in NO_POINTS:
            for at in range(3):
                corners = list(CORNERS)
                corners[at] = thing
                with self.subTest(corners=corners):
                    self.assertIs(self.refused(InvalidPoint, Triangle, *corners).thing, thing)

    def test_the_first_that_is_no_point(self):
        first, then = [1, 2], [3, 4]
        self.assertIs(self.refused(InvalidPoint, Triangle, first, then, then).thing, first)
        self.assertIs(self.refused(InvalidPoint, Triangle, (0, 0), first, then).thing, first)
        self.assertIs(self.refused(InvalidPoint, Triangle, (0, 0), (0, 0), first).thing, first)

    def test_on_one_line(self):
        flat = [((0, 0), (1, 1), (2, 2)), ((2, 2), (0, 0), (1, 1)), ((0, 0), (0, 0), (1, 5)), ((1, 5), (0, 0), (0, 0)),
                ((3, 3), (3, 3), (3, 3)), ((GREAT, 0), (0, 0), (-GREAT, 0)), ((0, 1), (1, 5), (0, 1))]
        for three in flat:
            for passed in [three, [Point(*pair) for pair in three], (three[0], Point(*three[1]), three[2])]:
                with self.subTest(three=three):
                    found = self.refused(Flat, Triangle, *passed).three
                    self.assertIs(type(found), tuple)
                    self.assert_points(list(found), three)

    def test_almost_on_one_line(self):
        self.assertEqual(Triangle((-GREAT, -GREAT), (GREAT, GREAT), (0, 1)).area2, 2 * GREAT)
        self.assertEqual(Triangle((0, 0), (GREAT, GREAT + 1), (GREAT - 1, GREAT)).area2, 1)

    def test_edges(self):
        for a, b, c in itertools.permutations(CORNERS):
            triangle = Triangle(a, b, c)
            first, second, third = pairs(triangle.corners())
            found = triangle.edges()
            self.assertIs(type(found), list)
            for edge in found:
                self.assertIs(type(edge), tuple)
                self.assert_points(list(edge), pairs(edge))
            self.assertEqual([tuple(pairs(edge)) for edge in found],
                             [(first, second), (second, third), (third, first)])

    def test_lists_are_new(self):
        triangle = Triangle(*CORNERS)
        for told in [triangle.corners, triangle.edges]:
            self.assertIsNot(told(), told())
            told().clear()
            self.assertEqual(len(told()), 3)
        triangle.corners()[0] = Point(99, 99)
        self.assertEqual(triangle, Triangle(*CORNERS))

    def test_area2(self):
        for three in small_triangles(-1, 1):
            self.assertEqual(Triangle(*three).area2, abs(cross(*three)))
        self.assertEqual(Triangle((0, 0), (0, GREAT), (GREAT, 0)).area2, GREAT * GREAT)

    def test_moved(self):
        triangle = Triangle(*CORNERS)
        for by in [(0, 0), (3, -4), (-GREAT, GREAT)]:
            for passed in [by, Point(*by)]:
                found = triangle.moved(passed)
                self.assertIs(type(found), Triangle)
                self.assert_points(found.corners(), [(x + by[0], y + by[1]) for x, y in CORNERS])
                self.assertEqual(found.area2, 28)
        self.assert_points(triangle.moved(by=(1, 1)).corners(), [(1, 1), (6, 2), (3, 7)])
        self.assert_points(triangle.corners(), CORNERS)

    def test_moved_by_no_point(self):
        for thing in NO_POINTS:
            self.assertIs(self.refused(InvalidPoint, Triangle(*CORNERS).moved, thing).thing, thing)


class EqualityTest(Case):
    def test_whichever_corner_is_the_first(self):
        for one, other in itertools.product(itertools.permutations(CORNERS), repeat=2):
            self.assert_equal_both_ways(Triangle(*one), Triangle(*other))

    def test_unlike(self):
        threes = small_triangles(0, 2)
        for one, other in itertools.product(threes, repeat=2):
            self.assertIs(Triangle(*one) == Triangle(*other), one == other)

    def test_no_other_value(self):
        triangle = Triangle(*CORNERS)
        self.assert_equals_no_foreign_value(triangle, CORNERS, tuple(CORNERS), triangle.corners(), triangle.edges(),
                                            Point(0, 0), Half((1, 0), True))


class WithinTest(Case):
    def test_all_points_near(self):
        for three in [CORNERS, [(0, 0), (4, 0), (0, 4)], [(0, 0), (6, 3), (2, 1 + 1)], [(-3, -2), (0, 5), (3, -2)]]:
            triangle = Triangle(*three)
            a, b, c = pairs(triangle.corners())
            for point in square(-4, 7):
                expected = cross(a, b, point) >= 0 and cross(b, c, point) >= 0 and cross(c, a, point) >= 0
                self.assert_truth(point in triangle, expected)
                self.assert_truth(Point(*point) in triangle, expected)

    def test_named_places(self):
        triangle = Triangle((0, 0), (4, 0), (0, 4))
        for point in [(1, 1), (2, 0), (0, 3), (2, 2), (0, 0), (4, 0), (0, 4)]:
            self.assert_truth(point in triangle, True)
        for point in [(3, 2), (-1, 0), (5, 0), (0, 5), (0, -1), (8, -4), (-GREAT, 1)]:
            self.assert_truth(point in triangle, False)

    def test_great_numbers(self):
        triangle = Triangle((0, 0), (GREAT, GREAT + 1), (-GREAT, GREAT))
        self.assert_truth((GREAT, GREAT + 1) in triangle, True)
        self.assert_truth((GREAT, GREAT) in triangle, False)
        self.assert_truth((GREAT - 1, GREAT) in triangle, True)

    def test_no_points(self):
        triangle = Triangle((-9, -9), (9, -9), (0, 30))
        for thing in [*NO_POINTS, triangle, [0, 0], "00"]:
            with self.subTest(thing=thing):
                self.assert_truth(thing in triangle, False)


class OwnsTest(Case):
    def assert_owns(self, rule, triangle, point, expected):
        self.assert_truth(owns(rule, triangle, point), expected)
        self.assert_truth(owns(rule, triangle, Point(*point)), expected)

    def test_inside_and_outside(self):
        triangle = Triangle((0, 0), (4, 0), (0, 4))
        for rule in [*HALVES, Table.nothing(), ~Table.nothing()]:
            self.assert_owns(rule, triangle, (1, 1), True)
            self.assert_owns(rule, triangle, (1, 2), True)
            for point in [(-1, 0), (3, 3), (5, 0), (0, 5), (2, -1), (GREAT, 0)]:
                self.assert_owns(rule, triangle, point, False)

    def test_edges_and_corners_with_all_tables(self):
        # Its edges are of the kinds 0, 3 and 6.
        triangle = Triangle((0, 0), (4, 0), (0, 4))
        for table in all_tables():
            self.assert_owns(table, triangle, (2, 0), table[0])
            self.assert_owns(table, triangle, (2, 2), table[3])
            self.assert_owns(table, triangle, (0, 2), table[6])
            self.assert_owns(table, triangle, (0, 0), table[6] and table[0])
            self.assert_owns(table, triangle, (4, 0), table[0] and table[3])
            self.assert_owns(table, triangle, (0, 4), table[3] and table[6])

    def test_halves_by_the_words_of_the_document(self):
        for three in [CORNERS, [(0, 0), (4, 0), (0, 4)], [(0, 0), (6, 3), (2, 2)], [(-2, -2), (4, 4), (-2, 4)]]:
            triangle = Triangle(*three)
            for half in HALVES:
                for point in square(-3, 7):
                    expected = True
                    for a, b in triangle.edges():
                        turn = cross(a.pair(), b.pair(), point)
                        expected = expected and (turn > 0 or (turn == 0 and half(b - a)))
                    self.assert_owns(half, triangle, point, expected)

    def test_one_half(self):
        triangle = Triangle((0, 0), (2, 0), (0, 2))
        owned = [point for point in square(-1, 3) if owns(Half((1, 0), True), triangle, point)]
        self.assertEqual(owned, [(1, 0), (2, 0), (1, 1)])

    def test_great_numbers(self):
        triangle = Triangle((0, 0), (2 * GREAT, 2), (0, GREAT))
        self.assert_owns(Half((1, 0), True), triangle, (GREAT, 1), True)
        self.assert_owns(Half((-1, 0), True), triangle, (GREAT, 1), False)
        self.assert_owns(Half((-1, 0), True), triangle, (GREAT, 2), True)

    def test_by_name(self):
        self.assert_truth(owns(point=(1, 0), triangle=Triangle((0, 0), (2, 0), (0, 2)), rule=Half((1, 0), True)), True)

    def test_no_point(self):
        for thing in NO_POINTS:
            call = self.refused(InvalidPoint, owns, Table.nothing(), Triangle(*CORNERS), thing)
            self.assertIs(call.thing, thing)


class ApartTest(Case):
    def assert_apart(self, one, other, expected):
        self.assert_truth(apart(one, other), expected)
        self.assert_truth(apart(other, one), expected)
        self.assert_truth(apart(one=other, other=one), expected)

    def test_named_places(self):
        one = Triangle((0, 0), (4, 0), (0, 4))
        for three in [[(4, 0), (4, 4), (0, 4)], [(3, 1), (6, 0), (6, 6)], [(1, 3), (3, 1), (9, 9)],
                      [(4, 0), (8, 0), (8, 1)], [(2, 2), (5, 2), (2, 5)], [(1, 0), (3, 0), (2, -1)],
                      [(-5, 0), (0, -5), (0, 0)], [(10, 10), (12, 10), (10, 12)], [(3, 2), (5, 5), (2, 3)],
                      [(0, -9), (9, -9), (0, 0)]]:
            self.assert_apart(one, Triangle(*three), True)
        for three in [[(0, 0), (4, 0), (0, 4)], [(1, 1), (2, 1), (1, 2)], [(-9, -9), (90, -9), (-9, 90)],
                      [(1, 1), (5, 1), (1, 5)], [(0, 0), (2, 0), (0, 2)], [(4, 0), (0, 4), (-9, 0)],
                      [(0, 0), (4, 0), (1, 1)], [(-1, 1), (9, 1), (0, 2)], [(2, -1), (3, -1), (2, 9)]]:
            self.assert_apart(one, Triangle(*three), False)

    def test_all_small_ones(self):
        triangles = [Triangle(*three) for three in small_triangles(0, 2)]
        for one, other in itertools.combinations_with_replacement(triangles, 2):
            self.assert_apart(one, other, common_area2(one, other) == 0)

    def test_larger_ones(self):
        triangles = [Triangle(*three) for three in small_triangles(0, 4)[::37]]
        for one, other in itertools.combinations(triangles, 2):
            self.assert_apart(one, other, common_area2(one, other) == 0)

    def test_great_numbers(self):
        one = Triangle((0, 0), (GREAT, GREAT + 1), (0, GREAT))
        self.assert_apart(one, Triangle((0, 0), (GREAT, GREAT + 1), (GREAT, 0)), True)
        self.assert_apart(one, Triangle((0, 0), (GREAT - 1, GREAT), (GREAT, 0)), False)
        self.assert_apart(one, Triangle((0, 0), (GREAT, GREAT), (GREAT, 0)), True)


if __name__ == "__main__":
    unittest.main()
