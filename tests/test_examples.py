"""The examples of the document."""

import unittest

from filledonce.directions import kind_of, lowest, sorted_around
from filledonce.errors import NoDirection
from filledonce.points import Point
from filledonce.points import quarter, side


class StageOneTest(unittest.TestCase):
    def test_points(self):
        p = Point(3, 4)
        self.assertEqual(
            [(p + (1, 1)).pair(), ((5, 5) - p).pair(), (2 * p).pair(), p.cross((1, 2)), quarter(p).pair(),
             side((0, 0), (4, 0), p)],
            [(4, 5), (2, 1), (6, 8), 2, (-4, 3), 16])

    def test_directions(self):
        self.assertEqual(
            [kind_of((0, -7)), lowest((6, -9)).pair(),
             [way.pair() for way in sorted_around([(0, -1), (1, 2), (5, 0), (2, 1)])]],
            [6, (2, -3), [(5, 0), (2, 1), (1, 2), (0, -1)]])

    def test_no_direction(self):
        with self.assertRaises(NoDirection) as caught:
            kind_of((0, 0))
        self.assertEqual(caught.exception.thing, (0, 0))


if __name__ == "__main__":
    unittest.main()
