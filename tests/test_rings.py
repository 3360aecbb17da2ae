"""8.1 and 8.2: rings, their turns, their fans, filled samples."""

import itertools
import random
import unittest

from filledonce.errors import InvalidPoint, InvalidRing
from filledonce.grids import Grid, Samples
from filledonce.nets import Net, rim_turns, signed, turns
from filledonce.points import Point
from filledonce.rings import Ring, filled
from filledonce.rules import Half
from filledonce.triangles import Triangle, owns
from tests.common import GREAT, NO_POINTS, TRUTHS, Case, pairs, square
from tests.winding import times_round

HALVES = [Half(way, ahead) for way in [(1, 0), (0, 1), (-1, 0), (0, -1), (2, 1), (-1, 1), (-3, -2), (1, -4)]
          for ahead in TRUTHS]

FIELD = [(0, 0), (2, 0), (2, 2), (0, 2)]

STAR = [(2, 0), (4, 6), (0, 2), (6, 2), (0, 5)]


def mixed_points():
    """Lists of points for rings, the same in every run."""
    source = random.Random(31)
    found = [[(1, 2)], [(1, 2), (1, 2)], [(0, 0), (4, 2)], FIELD, FIELD * 2, FIELD[::-1], STAR, FIELD + FIELD[::-1]]
    for number in range(30):
        found.append([(source.randint(0, 5), source.randint(0, 5)) for at in range(source.randint(1, 9))])
    return found


def ways_by_hand(points):
    return list(zip(points, points[1:] + points[:1]))


class MakingTest(Case):
    def test_points_and_ways(self):
        for points in mixed_points():
            for ring in [Ring(points), Ring(points=[Point(*pair) for pair in points])]:
                self.assert_points(ring.points(), points)
                self.assertEqual(len(ring), len(points))
                found = ring.ways()
                self.assertIs(type(found), list)
                for way in found:
                    self.assertIs(type(way), tuple)
                    self.assert_points(list(way), pairs(way))
                self.assertEqual([tuple(pairs(way)) for way in found], ways_by_hand(points))

    def test_one_and_two_points(self):
        self.assertEqual([tuple(pairs(way)) for way in Ring([(3, 4)]).ways()], [((3, 4), (3, 4))])
        self.assertEqual([tuple(pairs(way)) for way in Ring([(3, 4), (5, 6)]).ways()],
                         [((3, 4), (5, 6)), ((5, 6), (3, 4))])

    def test_no_list_or_of_a_wrong_length(self):
        self.assertEqual(len(Ring([(0, 0)] * 60)), 60)
        for thing in [[], [(0, 0)] * 61, [None] * 61, None, True, 0, "", "ab", (), tuple(FIELD), {}, set(),
                      Point(1, 2), Ring(FIELD)]:
            self.assertIsNone(self.refused(InvalidRing, Ring, thing).number)

    def test_no_point(self):
        for thing in NO_POINTS:
            for at in range(4):
                points = list(FIELD)
                points[at] = thing
                self.assertEqual(self.refused(InvalidRing, Ring, [*points, None]).number, at)

    def test_lists_are_copied(self):
        passed = list(FIELD)
        ring = Ring(passed)
        ring.turned()
        self.assertEqual(passed, FIELD)
        passed.clear()
        self.assertEqual(len(ring), 4)
        for told in [ring.points, ring.ways]:
            self.assertIsNot(told(), told())
            told().clear()
        ring.points()[0] = None
        self.assertEqual(ring, Ring(FIELD))

    def test_turned(self):
        for points in mixed_points():
            found = Ring(points).turned()
            self.assertIs(type(found), Ring)
            self.assert_points(found.points(), points[::-1])
            self.assertEqual(found.turned(), Ring(points))

    def test_area2(self):
        self.assertEqual(Ring(FIELD).area2, 8)
        self.assertEqual(Ring(FIELD).turned().area2, -8)
        self.assertEqual(Ring(FIELD * 3).area2, 24)
        self.assertEqual(Ring([(5, 7)]).area2, 0)
        self.assertEqual(Ring([(5, 7), (1, 9)]).area2, 0)
        self.assertEqual(Ring([(0, 0), (GREAT, 0), (0, GREAT)]).area2, GREAT * GREAT)
        for points in mixed_points():
            expected = sum(a[0] * b[1] - a[1] * b[0] for a, b in ways_by_hand(points))
            self.assertEqual(Ring(points).area2, expected)
            far = Ring([(x - GREAT, y + 3) for x, y in points])
            self.assertEqual(far.area2, expected)

    def test_equality(self):
        for one, other in itertools.product(mixed_points(), repeat=2):
            self.assertIs(Ring(one) == Ring(other), one == other)
        self.assert_unlike_both_ways(Ring(FIELD), Ring(FIELD[1:] + FIELD[:1]))
        ring = Ring([(1, 2)])
        self.assert_equals_no_foreign_value(ring, [(1, 2)], (1, 2), Point(1, 2), ring.points(), Samples([(1, 2)]),
                                            Net([(1, 2)], []))


class TurnsTest(Case):
    def test_in_another_manner(self):
        for points in mixed_points():
            ring = Ring(points)
            ways = ways_by_hand(points)
            for half, point in itertools.product(HALVES[::3], square(-1, 6)):
                expected = times_round(half, ways, point)
                self.assertEqual(ring.turns(half, point), expected)
                self.assertEqual(turns(half, ring.ways(), point), expected)
                self.assertEqual(ring.turned().turns(half, Point(*point)), -expected)

    def test_a_triangle_goes_round_what_it_owns(self):
        for half, point in itertools.product(HALVES, square(-1, 6)):
            expected = 1 if owns(half, Triangle((0, 0), (5, 1), (1, 5)), point) else 0
            self.assertEqual(Ring([(0, 0), (5, 1), (1, 5)]).turns(half, point), expected)

    def test_names_and_wrong_points(self):
        self.assertEqual(Ring(FIELD).turns(point=(1, 1), half=HALVES[0]), 1)
        for thing in NO_POINTS:
            self.assertIs(self.refused(InvalidPoint, Ring(FIELD).turns, HALVES[0], thing).thing, thing)


class FanTest(Case):
    def test_points_and_triples(self):
        for points in mixed_points():
            for point in [(0, 0), (-3, 7), Point(GREAT, 1), points[0]]:
                net = Ring(points).fan(point)
                self.assertIs(type(net), Net)
                last = point.pair() if isinstance(point, Point) else point
                self.assert_points(net.points(), [*points, last])
                many = len(points)
                expected = [{many, at, (at + 1) % many} for at in range(many)] if many > 1 else []
                self.assertEqual([set(three) for three in net.triples()], expected)

    def test_the_signed_count_is_the_number_of_turns(self):
        for points in mixed_points():
            ring = Ring(points)
            for point in [(0, 0), (2, 3), (9, -4), points[-1]]:
                net = ring.fan(point)
                for half, place in itertools.product(HALVES[::5], square(-1, 6)[::2]):
                    self.assertEqual(signed(half, net, place), ring.turns(half, place))
                    self.assertEqual(rim_turns(half, net, place), ring.turns(half, place))

    def test_one_and_two_points(self):
        one, two = Ring([(1, 2)]).fan((5, 5)), Ring([(1, 2), (3, 4)]).fan(point=(5, 0))
        self.assertEqual((one.triples(), len(one)), ([], 0))
        self.assert_points(one.points(), [(1, 2), (5, 5)])
        self.assertEqual((len(two), two.rim()), (2, []))

    def test_sixty_points(self):
        self.assertEqual(len(Ring([(at, at * at) for at in range(60)]).fan((0, 0))), 60)

    def test_a_new_net(self):
        ring = Ring(FIELD)
        ring.fan((1, 1))[0] = (9, 9)
        self.assertEqual(ring, Ring(FIELD))

    def test_no_point(self):
        for thing in NO_POINTS:
            for points in [FIELD, [(1, 2)]]:
                self.assertIs(self.refused(InvalidPoint, Ring(points).fan, thing).thing, thing)


class FilledTest(Case):
    def test_with_and_without_odd(self):
        for points, half in zip(mixed_points(), itertools.cycle(HALVES)):
            ring = Ring(points)
            for grid in [Grid.unit(), Grid(2, (1, 1)), Grid(3, (0, 2))]:
                many = {point: ring.turns(half, point) for point in square(-1, 7) if point in grid}
                for found in [filled(half, ring, grid), filled(half, ring, grid, odd=False)]:
                    self.assertIs(type(found), Samples)
                    self.assert_points(found.points(), [point for point in many if many[point] != 0])
                found = filled(half, ring, grid, odd=True)
                self.assertIs(type(found), Samples)
                self.assert_points(found.points(), [point for point in many if many[point] % 2 == 1])

    def test_twice_round(self):
        for points in [FIELD * 2, FIELD[::-1] * 2]:
            self.assertEqual(len(filled(HALVES[0], Ring(points), Grid.unit())), 4)
            self.assertEqual(len(filled(HALVES[0], Ring(points), Grid.unit(), odd=True)), 0)
        self.assertEqual(len(filled(HALVES[0], Ring(FIELD[::-1]), Grid.unit(), odd=True)), 4)

    def test_the_star_has_a_middle_only_without_odd(self):
        for half in HALVES:
            self.assertEqual(abs(Ring(STAR).turns(half, (2, 3))), 2)
            self.assertIn((2, 3), filled(half, Ring(STAR), Grid.unit()))
            self.assertNotIn((2, 3), filled(half, Ring(STAR), Grid.unit(), odd=True))

    def test_odd_by_name_only(self):
        with self.assertRaises(TypeError):
            filled(HALVES[0], Ring(FIELD), Grid.unit(), True)
        found = filled(odd=True, grid=Grid.unit(), ring=Ring(FIELD), half=Half((1, 0), True))
        self.assert_points(found.points(), [(1, 0), (2, 0), (1, 1), (2, 1)])

    def test_thirty_digits(self):
        step = 10 ** 29
        ring = Ring([(x * step, y * step) for x, y in FIELD])
        found = filled(Half((1, 0), True), ring, Grid(step, (0, 0)))
        self.assert_points(found.points(), [(step, 0), (2 * step, 0), (step, step), (2 * step, step)])

    def test_a_long_way_there_and_back(self):
        self.assertEqual(len(filled(HALVES[0], Ring([(0, 0), (GREAT, 0)]), Grid.unit())), 0)
        self.assertEqual(len(filled(HALVES[0], Ring([(5, 5)]), Grid.unit())), 0)


if __name__ == "__main__":
    unittest.main()
