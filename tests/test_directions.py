"""1.4: kinds, shortest points and the order round."""

import itertools
import math
import unittest

from filledonce import directions
from filledonce.directions import kind_of, lowest, sorted_around
from filledonce.errors import InvalidPoint, NoDirection
from filledonce.points import Point

GREAT = 10 ** 30 + 57

NO_POINTS = [None, True, 0, 5, "ab", b"ab", [1, 2], (), (1,), (1, 2, 3), (True, 2), (1, False), (1, "2"), {}]

BY_KIND = [[(1, 0), (7, 0)], [(1, 1), (9, 2)], [(0, 1), (0, 7)], [(-1, 1), (-2, 9)],
           [(-1, 0), (-7, 0)], [(-1, -1), (-9, -2)], [(0, -1), (0, -7)], [(1, -1), (2, -9)]]


def pairs(points):
    return [point.pair() for point in points]


class DirectionCase(unittest.TestCase):
    def assert_refused(self, error, thing, call, *passed):
        with self.assertRaises(error) as caught:
            call(*passed)
        self.assertIs(type(caught.exception), error)
        self.assertIs(caught.exception.thing, thing)

    def assert_refuses_what_is_no_direction(self, call):
        for thing in NO_POINTS:
            with self.subTest(thing=thing):
                self.assert_refused(InvalidPoint, thing, call, thing)
        for thing in [(0, 0), Point(0, 0), Point.origin()]:
            with self.subTest(thing=thing):
                self.assert_refused(NoDirection, thing, call, thing)


class KindTest(DirectionCase):
    def test_all_eight(self):
        for kind, ways in enumerate(BY_KIND):
            for way in [*ways, (ways[1][0] * GREAT, ways[1][1] * GREAT)]:
                with self.subTest(way=way):
                    self.assertEqual(kind_of(way), kind)
                    self.assertEqual(kind_of(Point(*way)), kind)
                    self.assertIs(type(kind_of(way)), int)

    def test_by_name(self):
        self.assertEqual(kind_of(direction=(0, -7)), 6)

    def test_wrong(self):
        self.assert_refuses_what_is_no_direction(kind_of)

    def test_the_functions_stand_in_this_file(self):
        for call in [kind_of, lowest, sorted_around]:
            self.assertEqual(call.__module__, directions.__name__)


class LowestTest(DirectionCase):
    def assert_lowest(self, way, pair):
        for passed in [way, Point(*way)]:
            found = lowest(passed)
            self.assertIs(type(found), Point)
            self.assertEqual(found.pair(), pair)

    def test_common_divisors(self):
        self.assert_lowest((6, 9), (2, 3))
        self.assert_lowest((6, -9), (2, -3))
        self.assert_lowest((-6, 9), (-2, 3))
        self.assert_lowest((-6, -9), (-2, -3))
        self.assert_lowest((4, 12), (1, 3))
        self.assert_lowest((12, 4), (3, 1))
        self.assert_lowest((-5, -5), (-1, -1))

    def test_already_shortest(self):
        for way in [(1, 0), (2, 3), (-7, 5), (1, -1), (0, -1)]:
            self.assert_lowest(way, way)

    def test_one_number_is_0(self):
        self.assert_lowest((5, 0), (1, 0))
        self.assert_lowest((-5, 0), (-1, 0))
        self.assert_lowest((0, 5), (0, 1))
        self.assert_lowest((0, -5), (0, -1))

    def test_thirty_digits(self):
        self.assert_lowest((6 * GREAT, -9 * GREAT), (2, -3))
        self.assert_lowest((-GREAT, 0), (-1, 0))
        self.assert_lowest((GREAT * 4, (GREAT + 1) * 4), (GREAT, GREAT + 1))
        self.assert_lowest((10 ** 30, 15 * 10 ** 29), (2, 3))
        self.assert_lowest((GREAT, GREAT - 1), (GREAT, GREAT - 1))

    def test_every_small_one(self):
        for x, y in itertools.product(range(-12, 13), repeat=2):
            if (x, y) != (0, 0):
                many = math.gcd(x, y)
                self.assert_lowest((x, y), (x // many, y // many))

    def test_by_name_and_unchanged(self):
        point = Point(4, 6)
        self.assertEqual(lowest(direction=point).pair(), (2, 3))
        self.assertEqual(point.pair(), (4, 6))

    def test_wrong(self):
        self.assert_refuses_what_is_no_direction(lowest)


class SortedAroundTest(DirectionCase):
    def test_all_kinds(self):
        around = [(1, 0), (5, 1), (1, 1), (1, 5), (0, 1), (-1, 5), (-1, 1), (-5, 1),
                  (-1, 0), (-5, -1), (-1, -1), (-1, -5), (0, -1), (1, -5), (1, -1), (5, -1)]
        self.assertEqual(pairs(sorted_around(around)), around)
        self.assertEqual(pairs(sorted_around(around[::-1])), around)
        self.assertEqual(pairs(sorted_around(around[5:] + around[:5])), around)
        self.assertEqual(pairs(sorted_around(around[::2] + around[1::2])), around)

    def test_every_order_of_a_few(self):
        around = [(2, 0), (3, 1), (0, 4), (-1, 9), (-6, -1), (4, -4)]
        for mixed in itertools.permutations(around):
            self.assertEqual(pairs(sorted_around(list(mixed))), around)

    def test_by_angle(self):
        ways = [(x, y) for x, y in itertools.product(range(-6, 7), repeat=2) if (x, y) != (0, 0)]
        turned = sorted(ways, key=lambda way: round(math.atan2(way[1], way[0]) % (2 * math.pi), 9))
        self.assertEqual(pairs(sorted_around(ways)), turned)

    def test_empty_and_one(self):
        self.assertEqual(sorted_around([]), [])
        self.assertEqual(pairs(sorted_around([(-3, 6)])), [(-3, 6)])

    def test_those_alike_stay_in_their_order(self):
        mixed = [(4, 2), (0, -3), (2, 1), (0, -1), (6, 3), (5, 0), (0, -2), (2, 1), (1, 0)]
        self.assertEqual(pairs(sorted_around(mixed)),
                         [(5, 0), (1, 0), (4, 2), (2, 1), (6, 3), (2, 1), (0, -3), (0, -1), (0, -2)])
        equal = [Point(2, 2), Point(0, 1), Point(2, 2), Point(1, 1), Point(2, 2)]
        found = sorted_around(equal)
        for at, thing in enumerate([equal[0], equal[2], equal[3], equal[4], equal[1]]):
            self.assertIs(found[at], thing)

    def test_opposite_ways_are_not_alike(self):
        self.assertEqual(pairs(sorted_around([(-2, -1), (2, 1), (-4, -2), (4, 2)])),
                         [(2, 1), (4, 2), (-2, -1), (-4, -2)])

    def test_numbers_of_thirty_digits(self):
        around = [(GREAT, 1), (GREAT - 1, 1), (GREAT, GREAT), (GREAT, GREAT + 1), (-GREAT, GREAT + 1), (-GREAT, GREAT)]
        self.assertEqual(pairs(sorted_around(around[::-1])), around)

    def test_points_and_pairs_come_back_as_points(self):
        found = sorted_around([Point(0, 1), (1, 0), Point(1, 1)])
        self.assertEqual(pairs(found), [(1, 0), (1, 1), (0, 1)])
        for point in found:
            self.assertIs(type(point), Point)

    def test_the_list_passed_is_not_changed_and_not_kept(self):
        passed = [(0, -1), (1, 2), Point(5, 0), (2, 1)]
        entries = list(passed)
        found = sorted_around(directions=passed)
        self.assertEqual(len(passed), len(entries))
        for entry, old in zip(passed, entries):
            self.assertIs(entry, old)
        self.assertIs(type(found), list)
        passed.clear()
        self.assertEqual(pairs(found), [(5, 0), (2, 1), (1, 2), (0, -1)])

    def test_the_list_returned_is_new(self):
        for passed in [[], [Point(1, 0)], [Point(1, 0), Point(0, 1)]]:
            found = sorted_around(passed)
            self.assertIsNot(found, passed)
            self.assertIsNot(sorted_around(passed), found)
            many = len(passed)
            found.append(Point(1, 1))
            self.assertEqual(len(passed), many)
            self.assertEqual(len(sorted_around(passed)), many)

    def test_the_first_that_is_none(self):
        none, zero, other = [1, 2], Point(0, 0), (0, 0)
        self.assert_refused(InvalidPoint, none, sorted_around, [(1, 0), none, zero])
        self.assert_refused(NoDirection, zero, sorted_around, [(1, 0), zero, none])
        self.assert_refused(NoDirection, zero, sorted_around, [zero, other])
        self.assert_refused(NoDirection, other, sorted_around, [(0, 1), (1, 0), other, zero])

    def test_wrong_anywhere(self):
        for thing in NO_POINTS:
            for at in range(3):
                passed = [(0, 1), (1, 0)]
                passed.insert(at, thing)
                with self.subTest(thing=thing, at=at):
                    self.assert_refused(InvalidPoint, thing, sorted_around, passed)
                    self.assertEqual(len(passed), 3)


if __name__ == "__main__":
    unittest.main()
