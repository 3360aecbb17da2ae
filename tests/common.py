"""What several test files need."""

import itertools
import unittest

from filledonce.points import Point

GREAT = 10 ** 30 + 57

TRUTHS = (True, False)

NO_INTEGERS = [True, False, None, "1", "", b"1", [1], (1,), 1.0, {}, Point(1, 2)]

NO_TRUTHS = [0, 1, None, "", "True", [], [True], (), 1.0, object()]

NO_POINTS = [None, True, 0, 5, "", "ab", b"ab", [], [1, 2], (), (1,), (1, 2, 3), (True, 2), (1, False), (1, None),
             (1, "2"), (1.0, 2), ((1, 2), 3), {}, {1: 2}, 1.5, object(), Point]


class Equal:
    """Says that it equals everything, so that nothing but the other side can say no."""

    def __eq__(self, other):
        return True


def pairs(points):
    return [point.pair() for point in points]


def square(low, high):
    """All pairs of numbers from low to high."""
    return [(x, y) for y, x in itertools.product(range(low, high + 1), repeat=2)]


class Case(unittest.TestCase):
    def refused(self, error, call, *passed, **named):
        """The error, of just this class, that a call raises."""
        with self.assertRaises(error) as caught:
            call(*passed, **named)
        self.assertIs(type(caught.exception), error)
        return caught.exception

    def assert_truth(self, found, truth):
        self.assertIs(found, truth)

    def assert_points(self, found, expected):
        """A list of just these points, each of the class Point."""
        self.assertIs(type(found), list)
        for point in found:
            self.assertIs(type(point), Point)
        self.assertEqual(pairs(found), list(expected))

    def assert_equal_both_ways(self, one, other):
        for truth in [one == other, other == one, not one != other]:
            self.assertIs(truth, True)

    def assert_unlike_both_ways(self, one, other):
        for truth in [one == other, other == one, not one != other]:
            self.assertIs(truth, False)

    def assert_equals_no_foreign_value(self, thing, *others):
        """It equals itself, and no value that is none of its class."""
        self.assertIs(thing == thing, True)
        foreign = [None, 0, 1, True, False, "", "ab", b"", (), [], {}, set(), 1.5, object(), type(thing)]
        for other in [*foreign, *others]:
            with self.subTest(other=other):
                self.assert_unlike_both_ways(thing, other)
        self.assertIs(thing == Equal(), False)
