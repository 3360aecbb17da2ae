"""4.1 and 4.2: halves as small shifts."""

import unittest

from filledonce.errors import InvalidNumber, InvalidPoint
from filledonce.points import Point
from filledonce.rules import Half
from filledonce.shifts import owns_shifted, scale_for, shift_of
from filledonce.triangles import Triangle, owns
from tests.common import GREAT, NO_INTEGERS, NO_POINTS, TRUTHS, Case, pairs, square

WAYS = [(1, 0), (0, 1), (-1, 0), (0, -1), (1, 1), (-1, 1), (2, -3), (-5, -1), (4, 7)]

HALVES = [Half(way, ahead) for way in WAYS for ahead in TRUTHS]

THREES = [[(0, 0), (4, 0), (0, 4)], [(0, 0), (5, 1), (2, 6)], [(0, 0), (6, 3), (2, 2)], [(-2, -2), (4, 4), (-2, 4)]]


class ShiftTest(Case):
    def test_both_truths(self):
        for x, y in WAYS:
            for ahead, second in [(True, (-y, x)), (False, (y, -x))]:
                found = shift_of(Half((x, y), ahead))
                self.assertIs(type(found), tuple)
                self.assert_points(list(found), [(-x, -y), second])

    def test_the_way_is_shortest(self):
        self.assertEqual(pairs(shift_of(half=Half((6, -9), True))), [(-2, 3), (3, 2)])
        self.assertEqual(pairs(shift_of(half=Half((0, GREAT), False))), [(0, -1), (1, 0)])

    def test_the_half_stays(self):
        half = Half((2, 1), False)
        shift_of(half)
        self.assertEqual(half, Half((2, 1), False))


class OwnsShiftedTest(Case):
    def test_by_the_words_of_the_document(self):
        for half in HALVES:
            first, second = pairs(shift_of(half))
            for three in THREES:
                triangle = Triangle(*three)
                for scale in [1, 2, 3, 10]:
                    big = Triangle(*[(x * scale * scale, y * scale * scale) for x, y in three])
                    for point in square(-1, 4):
                        x, y = [point[at] * scale * scale + first[at] * scale + second[at] for at in range(2)]
                        expected = all((b - a).cross((x, y) - a) > 0 for a, b in big.edges())
                        self.assert_truth(owns_shifted(half, triangle, point, scale), expected)

    def test_a_small_scale_may_tell_something_else(self):
        half, triangle = Half((1, 0), True), Triangle((0, 0), (2, 0), (0, 2))
        self.assert_truth(owns(half, triangle, (2, 0)), True)
        self.assert_truth(owns_shifted(half, triangle, (2, 0), 1), False)
        self.assert_truth(owns_shifted(half, triangle, (2, 0), 2), True)

    def test_no_scale(self):
        half, triangle = Half((1, 0), True), Triangle((0, 0), (2, 0), (0, 2))
        for scale in [0, -1, -GREAT, *NO_INTEGERS]:
            with self.subTest(scale=scale):
                self.assertIs(self.refused(InvalidNumber, owns_shifted, half, triangle, (1, 0), scale).number, scale)

    def test_no_point(self):
        half, triangle = Half((1, 0), True), Triangle((0, 0), (2, 0), (0, 2))
        for thing in NO_POINTS:
            for scale in [5, 0]:
                self.assertIs(self.refused(InvalidPoint, owns_shifted, half, triangle, thing, scale).thing, thing)
            self.assertIs(self.refused(InvalidPoint, scale_for, half, triangle, thing).thing, thing)

    def test_by_name(self):
        half, triangle = Half((1, 0), True), Triangle((0, 0), (2, 0), (0, 2))
        scale = scale_for(point=(1, 0), triangle=triangle, half=half)
        self.assert_truth(owns_shifted(scale=scale, point=Point(1, 0), triangle=triangle, half=half), True)


class ScaleTest(Case):
    def assert_right_from_the_scale_on(self, half, triangle, point, more):
        scale = scale_for(half, triangle, point)
        self.assertIs(type(scale), int)
        self.assertGreaterEqual(scale, 1)
        expected = owns(half, triangle, point)
        for greater in more:
            self.assert_truth(owns_shifted(half, triangle, point, scale + greater), expected)

    def test_points_near_small_triangles(self):
        for half in HALVES:
            for three in THREES:
                for point in square(-3, 7):
                    self.assert_right_from_the_scale_on(half, Triangle(*three), point, [0, 1, 2, 29, GREAT])

    def test_points_close_to_a_long_edge(self):
        # The sums of its corners are far shorter than its edges.
        triangle = Triangle((-50, -31), (51, 30), (0, 5))
        close = [(x, y) for x in range(-50, 52) for y in range(-31, 31)
                 if any(abs((b - a).cross((x, y) - a)) <= 2 for a, b in triangle.edges())]
        self.assertGreater(len(close), 20)
        for half in [Half(way, ahead) for way in [(-3, 5), (3, -5), (5, 3)] for ahead in TRUTHS]:
            for point in close:
                self.assert_right_from_the_scale_on(half, triangle, point, [0, 1, GREAT])

    def test_points_and_pairs_are_alike(self):
        half, triangle = Half((2, -3), True), Triangle(*THREES[1])
        self.assertEqual(scale_for(half, triangle, (3, 2)), scale_for(half, triangle, Point(3, 2)))

    def test_thirty_digits(self):
        triangle = Triangle((0, 0), (2 * GREAT, 2), (-2, 2 * GREAT + 4))
        places = [(0, 0), (2 * GREAT, 2), (-2, 2 * GREAT + 4), (GREAT, 1), (-1, GREAT + 2), (GREAT - 1, GREAT + 3),
                  (GREAT, 2), (GREAT, 0), (0, 1), (5, GREAT), (-GREAT, GREAT), (GREAT, GREAT + 3)]
        for way in [*WAYS, (GREAT, 1), (-GREAT, -1), (1, GREAT), (1 - GREAT, GREAT)]:
            for ahead in TRUTHS:
                for place in places:
                    self.assert_right_from_the_scale_on(Half(way, ahead), triangle, place, [0, 1, 7, GREAT])


if __name__ == "__main__":
    unittest.main()
