"""11.3: weights, and values that lie evenly between those at the corners."""

import fractions
import itertools
import math
import random
import unittest

from filledonce.errors import InvalidPoint, InvalidValues
from filledonce.points import Point, side
from filledonce.triangles import Triangle
from filledonce.values import value_at, weights
from tests.common import GREAT, NO_INTEGERS, NO_POINTS, Case, square

TRIANGLES = [Triangle((0, 0), (4, 0), (0, 4)), Triangle((0, 0), (0, 4), (4, 0)), Triangle((-3, -2), (5, 1), (1, 6)),
             Triangle((7, -1), (-6, 2), (0, -5)), Triangle((0, 0), (1, 0), (0, 1)), Triangle((0, 0), (6, 3), (3, 6))]

VALUES = [[0, 0, 0], [1, 0, 0], [0, 1, 0], [0, 0, 1], [5, 5, 5], [-3, 8, 2], [1, 2, 4], [-7, -11, -13], [6, -12, 18],
          [GREAT, -GREAT, 3 * GREAT + 1]]


def value_by_hand(triangle, values, point):
    """By the two ways from the first corner to the others, as fractions."""
    a, b, c = [corner.pair() for corner in triangle.corners()]
    ux, uy, vx, vy = b[0] - a[0], b[1] - a[1], c[0] - a[0], c[1] - a[1]
    px, py = point[0] - a[0], point[1] - a[1]
    s = fractions.Fraction(px * vy - py * vx, ux * vy - uy * vx)
    t = fractions.Fraction(ux * py - uy * px, ux * vy - uy * vx)
    return values[0] + s * (values[1] - values[0]) + t * (values[2] - values[0])


class WeightsTest(Case):
    def test_the_three_sides(self):
        for triangle, point in itertools.product(TRIANGLES, square(-7, 8)):
            a, b, c = triangle.corners()
            found = weights(triangle, point)
            self.assertIs(type(found), tuple)
            self.assertEqual(found, (side(b, c, point), side(c, a, point), side(a, b, point)))
            self.assertEqual(sum(found), triangle.area2)

    def test_at_corners_and_on_edges(self):
        for triangle in TRIANGLES:
            a, b, c = triangle.corners()
            self.assertEqual([weights(triangle, corner) for corner in [a, b, c]],
                             [(triangle.area2, 0, 0), (0, triangle.area2, 0), (0, 0, triangle.area2)])
            self.assertEqual([weights(triangle, place).index(0) for place in [2 * b - c, 2 * c - a, 2 * a - b]],
                             [0, 1, 2])

    def test_thirty_digits(self):
        triangle = Triangle((0, 0), (GREAT, 0), (0, GREAT))
        self.assertEqual(weights(triangle, (1, 2)), (GREAT * GREAT - 3 * GREAT, GREAT, 2 * GREAT))

    def test_names(self):
        self.assertEqual(weights(point=Point(1, 1), triangle=TRIANGLES[0]), (8, 4, 4))

    def test_no_point(self):
        for thing in NO_POINTS:
            self.assertIs(self.refused(InvalidPoint, weights, TRIANGLES[0], thing).thing, thing)


class ValueTest(Case):
    def check_value(self, found, expected):
        self.assertIs(type(found), tuple)
        self.assertEqual(found, (expected.numerator, expected.denominator))
        for number in found:
            self.assertIs(type(number), int)

    def test_in_another_manner(self):
        for triangle, values, point in itertools.product(TRIANGLES, VALUES, square(-6, 7)[::2]):
            expected = value_by_hand(triangle, values, point)
            self.check_value(value_at(triangle, values, point), expected)
            self.check_value(value_at(triangle, tuple(values), Point(*point)), expected)

    def test_at_the_corners(self):
        for triangle, values in itertools.product(TRIANGLES, VALUES):
            for corner, value in zip(triangle.corners(), values):
                self.assertEqual(value_at(triangle, values, corner), (value, 1))

    def test_no_common_divisor_and_the_second_above_0(self):
        for triangle, values, point in itertools.product(TRIANGLES, VALUES, square(-3, 3)):
            top, bottom = value_at(triangle, values, point)
            self.assertGreater(bottom, 0)
            self.assertEqual(math.gcd(top, bottom), 1)

    def test_the_value_0(self):
        triangle = Triangle((0, 0), (4, 0), (0, 4))
        self.assertEqual(value_at(triangle, [0, 0, 0], (1, 2)), (0, 1))
        self.assertEqual(value_at(triangle, [-2, 2, 0], (2, 0)), (0, 1))
        self.assertEqual(value_at(triangle, [0, 4, 8], (-2, 1)), (0, 1))

    def test_on_the_line_of_an_edge_the_third_corner_counts_nothing(self):
        for triangle, values in itertools.product(TRIANGLES, VALUES):
            corners = triangle.corners()
            for at in range(3):
                a, b = corners[at], corners[(at + 1) % 3]
                for place in [a, b, 2 * a - b, 2 * b - a, 3 * b - 2 * a]:
                    other = list(values)
                    other[(at + 2) % 3] += 1000
                    self.assertEqual(value_at(triangle, values, place), value_at(triangle, other, place))

    def test_two_triangles_agree_on_a_common_edge(self):
        one, other = Triangle((0, 0), (6, 0), (0, 3)), Triangle((6, 0), (8, 9), (0, 3))
        for point in [(6, 0), (4, 1), (2, 2), (0, 3)]:
            self.assertEqual(value_at(one, [9, 4, -7], point), value_at(other, [4, 100, -7], point))

    def test_thirty_digits(self):
        source = random.Random(83)
        for number in range(100):
            a, b, c, point = [(source.randint(-GREAT, GREAT), source.randint(-GREAT, GREAT)) for at in range(4)]
            triangle, values = Triangle(a, b, c), [source.randint(-GREAT, GREAT) for at in range(3)]
            self.check_value(value_at(triangle, values, point), value_by_hand(triangle, values, point))

    def test_names_and_what_is_passed(self):
        values = [0, 4, 8]
        self.assertEqual(value_at(point=(1, 1), values=values, triangle=TRIANGLES[0]), (3, 1))
        self.assertEqual(values, [0, 4, 8])

    def test_no_point_comes_first(self):
        for thing, values in itertools.product(NO_POINTS, [[1, 2, 3], None, [1], [1, None, 3]]):
            self.assertIs(self.refused(InvalidPoint, value_at, TRIANGLES[0], values, thing).thing, thing)

    def test_not_three(self):
        for thing in [None, True, 3, "abc", b"abc", {0: 1, 1: 2, 2: 3}, {1, 2, 3}, [], (), [1, 2], (1, 2), [1, 2, 3, 4],
                      (1, 2, 3, 4), range(3), Point(1, 2), [None] * 4]:
            self.assertIsNone(self.refused(InvalidValues, value_at, TRIANGLES[0], thing, (1, 1)).number)

    def test_no_integer(self):
        for thing, at in itertools.product(NO_INTEGERS, range(3)):
            values = [1, 2, 3][:at] + [thing] * (3 - at)
            for passed in [values, tuple(values)]:
                self.assertEqual(self.refused(InvalidValues, value_at, TRIANGLES[0], passed, (1, 1)).number, at)


if __name__ == "__main__":
    unittest.main()
