"""1.1 to 1.3: points, their signs, cross, pair, side and quarter."""

import unittest

from filledonce.errors import InvalidPoint
from filledonce.points import Point, quarter, side

GREAT = 10 ** 40 + 7

NO_INTEGERS = [True, False, None, "1", "", b"1", [1], (1,), 1.0, 1.5, {}, Point(1, 2)]

NO_POINTS = [
    None, True, False, 0, 1, -3, "", "ab", "12", b"ab", [], [1, 2], (), (1,), (1, 2, 3),
    (True, 2), (1, False), (1, None), ("1", 2), (1, "2"), (1.0, 2), (1, 2.0), ((1, 2), 3),
    ([1], 2), {}, {1: 2, 3: 4}, {1, 2}, 1.5, object(), Point,
]


class Foreign:
    """Answers to every sign, so that nothing but the point itself can refuse it."""

    def __radd__(self, other):
        return "answered"

    __rsub__ = __rmul__ = __radd__


class Equal:
    def __eq__(self, other):
        return True


class PointCase(unittest.TestCase):
    def assert_point(self, found, pair):
        self.assertIs(type(found), Point)
        self.assertEqual((found.x, found.y), pair)
        self.assertIs(type(found.x), int)
        self.assertIs(type(found.y), int)

    def assert_no_point(self, thing, call, *passed):
        with self.assertRaises(InvalidPoint) as caught:
            call(*passed)
        self.assertIs(type(caught.exception), InvalidPoint)
        self.assertIs(caught.exception.thing, thing)


class MakingTest(PointCase):
    def test_two_integers_of_any_size(self):
        for x, y in [(0, 0), (1, 2), (-1, -2), (3, -4), (GREAT, -GREAT), (-(10 ** 5000), 10 ** 5000)]:
            self.assert_point(Point(x, y), (x, y))

    def test_by_name(self):
        self.assert_point(Point(x=1, y=2), (1, 2))
        self.assert_point(Point(y=1, x=2), (2, 1))
        self.assert_point(Point(1, y=2), (1, 2))

    def test_anything_else_is_no_point(self):
        for thing in NO_INTEGERS:
            for pair in [(thing, 1), (1, thing), (thing, thing)]:
                with self.subTest(pair=pair):
                    with self.assertRaises(InvalidPoint) as caught:
                        Point(*pair)
                    self.assertIs(type(caught.exception.thing), tuple)
                    self.assertEqual(len(caught.exception.thing), 2)
                    self.assertIs(caught.exception.thing[0], pair[0])
                    self.assertIs(caught.exception.thing[1], pair[1])

    def test_the_error_by_name_has_x_first(self):
        with self.assertRaises(InvalidPoint) as caught:
            Point(y=None, x="x")
        self.assertEqual(caught.exception.thing, ("x", None))

    def test_origin(self):
        self.assert_point(Point.origin(), (0, 0))
        self.assert_point(Point(3, 4).origin(), (0, 0))
        self.assertIsInstance(vars(Point)["origin"], staticmethod)

    def test_methods_stand_in_the_class_itself(self):
        for name in ["__init__", "__eq__", "__add__", "__sub__", "__mul__", "pair", "cross", "origin"]:
            self.assertIn(name, vars(Point))
        for thing in [Point, side, quarter]:
            self.assertEqual(thing.__module__, "filledonce.points")


class EqualityTest(PointCase):
    def test_equal_if_both_numbers_are(self):
        self.assertTrue(Point(1, 2) == Point(1, 2))
        self.assertFalse(Point(1, 2) != Point(1, 2))
        self.assertTrue(Point(GREAT, -GREAT) == Point(GREAT, -GREAT))

    def test_unlike_if_one_number_is(self):
        for other in [Point(1, 3), Point(3, 2), Point(2, 1), Point(-1, 2), Point(1, -2)]:
            self.assertFalse(Point(1, 2) == other)
            self.assertTrue(Point(1, 2) != other)

    def test_equal_to_no_other_value(self):
        point = Point(1, 2)
        for other in [(1, 2), [1, 2], None, 1, True, "1 2", {1: 2}, Point, object(), InvalidPoint((1, 2))]:
            with self.subTest(other=other):
                self.assertIs(point == other, False)
                self.assertIs(other == point, False)
                self.assertIs(point != other, True)

    def test_a_foreign_object_does_not_decide(self):
        self.assertIs(Point(1, 2) == Equal(), False)

    def test_truth_is_true_or_false(self):
        self.assertIs(Point(1, 2) == Point(1, 2), True)
        self.assertIs(Point(1, 2) == Point(2, 2), False)


class SignsTest(PointCase):
    def test_add(self):
        self.assert_point(Point(3, 4) + Point(1, -6), (4, -2))
        self.assert_point(Point(3, 4) + (1, -6), (4, -2))
        self.assert_point((1, -6) + Point(3, 4), (4, -2))
        self.assert_point(Point(GREAT, 0) + (GREAT, -GREAT), (2 * GREAT, -GREAT))

    def test_subtract(self):
        self.assert_point(Point(3, 4) - Point(1, -6), (2, 10))
        self.assert_point(Point(3, 4) - (1, -6), (2, 10))
        self.assert_point((1, -6) - Point(3, 4), (-2, -10))
        self.assert_point((0, 0) - Point(GREAT, -GREAT), (-GREAT, GREAT))

    def test_multiply(self):
        self.assert_point(Point(3, -4) * 2, (6, -8))
        self.assert_point(2 * Point(3, -4), (6, -8))
        self.assert_point(Point(3, -4) * 0, (0, 0))
        self.assert_point(-1 * Point(3, -4), (-3, 4))
        self.assert_point(Point(3, -4) * GREAT, (3 * GREAT, -4 * GREAT))

    def test_nothing_changes(self):
        a, b = Point(3, 4), Point(1, 2)
        found = [a + b, a - b, a * 5, 5 * a, (7, 7) + a, (7, 7) - a]
        self.assertEqual((a.pair(), b.pair()), ((3, 4), (1, 2)))
        for point in found:
            point.x = 99
        self.assertEqual((a.pair(), b.pair()), ((3, 4), (1, 2)))

    def test_a_new_point_also_where_nothing_is_added(self):
        a = Point(3, 4)
        for found in [a + (0, 0), a - (0, 0), a * 1, (0, 0) + a]:
            self.assertEqual(found, a)
            self.assertIsNot(found, a)

    def test_in_place_leaves_the_old_point(self):
        a = b = Point(3, 4)
        a += (1, 1)
        self.assertEqual((a.pair(), b.pair()), ((4, 5), (3, 4)))

    def test_no_point_at_the_other_side(self):
        point = Point(3, 4)
        for thing in NO_POINTS:
            with self.subTest(thing=thing):
                for call in [lambda: point + thing, lambda: thing + point,
                             lambda: point - thing, lambda: thing - point]:
                    self.assertRaises(TypeError, call)

    def test_no_integer_at_the_other_side(self):
        point = Point(3, 4)
        for thing in [*NO_INTEGERS, (1, 2), [1, 2], "ab", 2.0, object()]:
            with self.subTest(thing=thing):
                self.assertRaises(TypeError, lambda: point * thing)
                self.assertRaises(TypeError, lambda: thing * point)

    def test_a_foreign_object_does_not_answer(self):
        for call in [lambda: Point(1, 2) + Foreign(), lambda: Point(1, 2) - Foreign(),
                     lambda: Point(1, 2) * Foreign()]:
            self.assertRaises(TypeError, call)


class CrossTest(PointCase):
    def test_cross(self):
        self.assertEqual(Point(3, 4).cross((1, 2)), 2)
        self.assertEqual(Point(1, 2).cross(Point(3, 4)), -2)
        self.assertEqual(Point(2, 3).cross((-4, -6)), 0)
        self.assertEqual(Point(5, 0).cross(other=(0, 7)), 35)
        self.assertEqual(Point(GREAT, 1).cross((1, GREAT)), GREAT * GREAT - 1)
        self.assertEqual(Point(GREAT, GREAT).cross((GREAT, GREAT + 1)), GREAT)

    def test_no_point(self):
        for thing in NO_POINTS:
            self.assert_no_point(thing, Point(1, 2).cross, thing)

    def test_pair(self):
        self.assertEqual(Point(-3, 4).pair(), (-3, 4))
        self.assertIs(type(Point(-3, 4).pair()), tuple)


class SideTest(PointCase):
    def test_left_right_and_on_the_line(self):
        self.assertEqual(side((0, 0), (4, 0), (3, 4)), 16)
        self.assertEqual(side((0, 0), (4, 0), (3, -4)), -16)
        self.assertEqual(side((0, 0), (4, 0), (-9, 0)), 0)
        self.assertEqual(side((1, 1), (1, 1), (5, -8)), 0)
        self.assertEqual(side(Point(1, 2), (4, 8), Point(0, 3)), 3 * 1 - 6 * -1)

    def test_it_does_not_hang_on_where_all_lie(self):
        for by in [(0, 0), (7, -3), (-GREAT, GREAT)]:
            a, b, point = Point(1, 2) + by, Point(5, 3) + by, Point(2, 7) + by
            self.assertEqual(side(a, b, point), 19)
            self.assertEqual(side(b, point, a), 19)
            self.assertEqual(side(b, a, point), -19)

    def test_great_numbers(self):
        self.assertEqual(side((0, 0), (GREAT, 1), (GREAT, 2)), GREAT)
        self.assertEqual(side((-GREAT, -GREAT), (GREAT, GREAT), (0, 1)), 2 * GREAT)
        self.assertEqual(side((-GREAT, -GREAT), (GREAT, GREAT), (3, 3)), 0)

    def test_by_name(self):
        self.assertEqual(side(point=(3, 4), b=(4, 0), a=(0, 0)), 16)

    def test_no_point(self):
        for thing in NO_POINTS:
            with self.subTest(thing=thing):
                self.assert_no_point(thing, side, thing, (1, 2), (3, 4))
                self.assert_no_point(thing, side, (1, 2), thing, (3, 4))
                self.assert_no_point(thing, side, (1, 2), (3, 4), thing)

    def test_the_first_that_is_no_point(self):
        first, then = [1, 2], [3, 4]
        self.assert_no_point(first, side, first, then, then)
        self.assert_no_point(first, side, (0, 0), first, then)


class QuarterTest(PointCase):
    def test_against_the_clock(self):
        self.assert_point(quarter((3, 4)), (-4, 3))
        self.assert_point(quarter(Point(-1, -2)), (2, -1))
        self.assert_point(quarter(point=(1, 0)), (0, 1))
        self.assert_point(quarter((0, 0)), (0, 0))
        self.assert_point(quarter((GREAT, -GREAT)), (GREAT, GREAT))

    def test_four_quarters_come_back(self):
        self.assertEqual(quarter(quarter(quarter(quarter((5, -2))))), Point(5, -2))

    def test_the_point_passed_stays(self):
        point = Point(3, 4)
        quarter(point)
        self.assertEqual(point.pair(), (3, 4))

    def test_no_point(self):
        for thing in NO_POINTS:
            self.assert_no_point(thing, quarter, thing)


if __name__ == "__main__":
    unittest.main()
