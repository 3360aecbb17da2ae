"""7.1 to 7.5: nets, signed counts, the rim and its turns, snapped nets."""

import collections
import itertools
import random
import unittest

from filledonce.errors import InvalidNet, InvalidNumber, InvalidPoint, InvalidWays
from filledonce.grids import Grid, Samples
from filledonce.nets import Net, counted_owners, rim_turns, signed, snapped, turns, unlike
from filledonce.points import Point
from filledonce.rules import Half
from filledonce.triangles import Triangle, owns
from tests.common import GREAT, NO_INTEGERS, NO_POINTS, TRUTHS, Case, square
from tests.winding import times_round

HALVES = [Half(way, ahead) for way in [(1, 0), (0, 1), (-1, 0), (0, -1), (1, 1), (-2, 1), (-1, -3), (3, -2)]
          for ahead in TRUTHS]

POINTS = [(0, 0), (4, 0), (0, 4), (1, 1)]

FAN = [(0, 1, 3), (1, 2, 3), (2, 0, 3)]

STRIP = [(0, 0), (3, 0), (0, 3), (3, 3), (0, 6), (3, 6)]


def mixed_nets():
    """Nets of all kinds, folded, flat and over one another, the same in every run."""
    source = random.Random(20)
    found = [Net([], []), Net(POINTS, []), Net(POINTS, FAN), Net(POINTS, [(0, 2, 1)]), Net(POINTS, FAN + FAN[:1])]
    for number in range(40):
        many = source.randint(3, 7)
        points = [(source.randint(0, 5), source.randint(0, 5)) for at in range(many)]
        triples = [tuple(source.sample(range(many), 3)) for at in range(source.randint(1, 6))]
        found.append(Net(points, triples))
    return found


def rim_by_hand(net):
    """Take opposite ways away together, one by one."""
    ways = [way for a, b, c in net.triples() for way in [(a, b), (b, c), (c, a)]]
    for i, j in list(ways):
        if (i, j) in ways and (j, i) in ways:
            ways.remove((i, j))
            ways.remove((j, i))
    return sorted(ways)


class MakingTest(Case):
    def assert_no_net(self, part, number, points, triples):
        error = self.refused(InvalidNet, Net, points, triples)
        self.assertEqual(error.part, part)
        self.assertEqual(error.number, number)
        self.assertIs(type(error.number), type(number))

    def test_lists(self):
        for net in [Net(POINTS, FAN), Net(triples=FAN, points=[Point(*pair) for pair in POINTS])]:
            self.assert_points(net.points(), POINTS)
            self.assertEqual(net.triples(), FAN)
            self.assertEqual([type(three) for three in net.triples()], [tuple] * 3)
            self.assertEqual(len(net), 3)
            self.assert_points([net[index] for index in range(4)], POINTS)

    def test_the_empty_net(self):
        net = Net([], [])
        self.assertEqual((net.points(), net.triples(), len(net), net.rim()), ([], [], 0, []))

    def test_a_hundred_entries(self):
        points = [(x, 0) for x in range(100)]
        net = Net(points, [(0, 1, 99)] * 100)
        self.assertEqual((len(net.points()), len(net)), (100, 100))
        self.assert_no_net("points", None, [*points, (0, 0)], [])
        self.assert_no_net("points", None, [None] * 101, None)
        self.assert_no_net("triples", None, points, [(0, 1, 99)] * 101)
        self.assert_no_net("triples", None, points, [None] * 101)

    def test_no_lists(self):
        for thing in [None, True, 0, "", "abc", (), tuple(POINTS), {}, set(), Point(0, 0), Net(POINTS, FAN)]:
            self.assert_no_net("points", None, thing, FAN)
            self.assert_no_net("points", None, thing, None)
            self.assert_no_net("triples", None, POINTS, thing)

    def test_no_point(self):
        for thing in NO_POINTS:
            for at in range(4):
                points = list(POINTS)
                points[at] = thing
                self.assert_no_net("points", at, [*points, None], FAN)
                self.assert_no_net("points", at, points, None)

    def test_no_triple(self):
        for thing in [None, True, 0, "012", b"012", (), (0,), (0, 1), (0, 1, 2, 3), [0, 1, 2], (True, 0, 2),
                      (0, False, 2), (0, 1, True), (0, 0, 1), (0, 1, 0), (1, 0, 0), (2, 2, 2), (0, 1, 4), (-1, 0, 1),
                      (0, 1, "2"), (0, 1, None), (0, [1], 2), (0.0, 1, 2), ((0, 1), 2, 3), (0, 1, GREAT), {0, 1, 2}]:
            for at in range(3):
                triples = list(FAN)
                triples[at] = thing
                with self.subTest(triples=triples):
                    self.assert_no_net("triples", at, POINTS, [*triples, None])
        self.assert_no_net("triples", 0, [], [(0, 1, 2)])

    def test_lists_are_copied(self):
        points, triples = list(POINTS), list(FAN)
        net = Net(points, triples)
        net[0] = (9, 9)
        self.assertEqual((points, triples), (POINTS, FAN))
        net[0] = POINTS[0]
        points.clear()
        triples.clear()
        self.assertEqual(net, Net(POINTS, FAN))
        for told in [net.points, net.triples, net.rim]:
            self.assertIsNot(told(), told())
            told().clear()
        net.points()[0] = None
        self.assertEqual(net, Net(POINTS, FAN))

    def test_items(self):
        net = Net(POINTS, FAN)
        net[3] = (9, 9)
        self.assert_points(net.points(), [*POINTS[:3], (9, 9)])
        net[0] = Point(-GREAT, GREAT)
        self.assert_points([net[0]], [(-GREAT, GREAT)])
        self.assertEqual(net.triples(), FAN)

    def test_no_such_index(self):
        for points in [[], POINTS]:
            net = Net(points, [])
            for index in [-1, len(points), len(points) + 1, GREAT, *NO_INTEGERS]:
                with self.subTest(index=index):
                    self.assertIs(self.refused(InvalidNumber, lambda: net[index]).number, index)
                    for thing in [(1, 1), None]:
                        self.assertIs(self.refused(InvalidNumber, net.__setitem__, index, thing).number, index)
            self.assert_points(net.points(), points)

    def test_no_point_is_set(self):
        net = Net(POINTS, FAN)
        for thing in NO_POINTS:
            for index in range(4):
                self.assertIs(self.refused(InvalidPoint, net.__setitem__, index, thing).thing, thing)
        self.assertEqual(net, Net(POINTS, FAN))

    def test_twin(self):
        net = Net(POINTS, FAN)
        twin = net.twin()
        self.assertIs(type(twin), Net)
        self.assertIsNot(twin, net)
        self.assert_equal_both_ways(net, twin)
        net[0] = (7, 7)
        self.assert_unlike_both_ways(net, twin)
        self.assertEqual(twin, Net(POINTS, FAN))
        twin[0] = (7, 7)
        self.assert_equal_both_ways(net, twin)

    def test_equality(self):
        net = Net(POINTS, FAN)
        for other in [Net(POINTS, FAN[:2]), Net(POINTS, FAN[::-1]), Net(POINTS, [(1, 3, 0), *FAN[1:]]),
                      Net([*POINTS, (0, 0)], FAN), Net([(0, 1), *POINTS[1:]], FAN), Net([], [])]:
            self.assert_unlike_both_ways(net, other)
        self.assert_equals_no_foreign_value(net, POINTS, FAN, (POINTS, FAN), net.points(), Point(0, 0), Samples(POINTS))
        self.assert_equals_no_foreign_value(Net([], []), Samples([]))


class CountTest(Case):
    def assert_counted(self, half, net, point, against, along):
        for passed in [point, Point(*point)]:
            found = counted_owners(half, net, passed)
            self.assertIs(type(found), tuple)
            self.assertEqual(found, (against, along))
            self.assertEqual(signed(half, net, passed), against - along)

    def test_each_way_round(self):
        for half in HALVES:
            self.assert_counted(half, Net(POINTS, [(0, 1, 2)]), (1, 1), 1, 0)
            self.assert_counted(half, Net(POINTS, [(0, 2, 1)]), (1, 1), 0, 1)
            self.assert_counted(half, Net(POINTS, [(0, 1, 2), (0, 2, 1), (1, 2, 0)]), (1, 1), 2, 1)
            self.assert_counted(half, Net(POINTS, [(0, 1, 2)]), (5, 5), 0, 0)

    def test_flat_ones_count_nothing(self):
        net = Net([(0, 0), (2, 2), (4, 4), (0, 0)], [(0, 1, 2), (2, 1, 0), (0, 3, 1), (0, 3, 2)])
        for half in HALVES:
            for point in square(-1, 5):
                self.assert_counted(half, net, point, 0, 0)

    def test_a_triple_turned_over_owns_what_the_turned_triangle_owns(self):
        triangle = Triangle((0, 0), (4, 0), (0, 4))
        for half, point in itertools.product(HALVES, square(-1, 5)):
            many = 1 if owns(half, triangle, point) else 0
            self.assert_counted(half, Net(POINTS, [(0, 1, 2)]), point, many, 0)
            self.assert_counted(half, Net(POINTS, [(1, 0, 2)]), point, 0, many)

    def test_mixed_nets(self):
        for net in mixed_nets():
            for half, point in itertools.product(HALVES[::5], square(-1, 6)):
                against = along = 0
                for i, j, k in net.triples():
                    a, b, c = net[i], net[j], net[k]
                    turn = (b - a).cross(c - a)
                    if turn != 0 and owns(half, Triangle(a, b, c), point):
                        against, along = against + (turn > 0), along + (turn < 0)
                self.assert_counted(half, net, point, against, along)

    def test_names_and_wrong_points(self):
        net = Net(POINTS, [(0, 1, 2)])
        self.assertEqual(signed(point=(1, 1), net=net, half=HALVES[0]), 1)
        self.assertEqual(counted_owners(point=(1, 1), net=net, half=HALVES[0]), (1, 0))
        for thing in NO_POINTS:
            for call in [signed, counted_owners, rim_turns]:
                for passed in [net, Net([], [])]:
                    self.assertIs(self.refused(InvalidPoint, call, HALVES[0], passed, thing).thing, thing)


class RimTest(Case):
    def test_ways_that_cancel(self):
        self.assertEqual(Net(POINTS, FAN).rim(), [(0, 1), (1, 2), (2, 0)])
        self.assertEqual(Net(POINTS, [(0, 1, 2), (0, 2, 1)]).rim(), [])
        self.assertEqual(Net(POINTS, [(0, 1, 2), (2, 1, 3)]).rim(), [(0, 1), (1, 3), (2, 0), (3, 2)])

    def test_ways_that_are_left_several_times(self):
        self.assertEqual(Net(POINTS, [(0, 1, 2), (1, 2, 0)]).rim(), [(0, 1), (0, 1), (1, 2), (1, 2), (2, 0), (2, 0)])
        self.assertEqual(Net(POINTS, [(0, 1, 2), (0, 1, 2), (0, 2, 1)]).rim(), [(0, 1), (1, 2), (2, 0)])
        self.assertEqual(Net(POINTS, [(2, 3, 0), (3, 0, 1), (3, 0, 2)]).rim(),
                         [(0, 1), (0, 2), (0, 2), (1, 3), (2, 3), (2, 3), (3, 0), (3, 0), (3, 0)])

    def test_ascending_by_numbers_not_by_text(self):
        net = Net([(x, x * x) for x in range(30)], [(2, 10, 1), (10, 9, 29), (29, 11, 3)])
        self.assertEqual(net.rim(), [(1, 2), (2, 10), (3, 29), (9, 29), (10, 1), (10, 9), (11, 3), (29, 10), (29, 11)])

    def test_mixed_nets(self):
        for net in mixed_nets():
            found = net.rim()
            self.assertIs(type(found), list)
            self.assertEqual([type(way) for way in found], [tuple] * len(found))
            self.assertEqual(found, rim_by_hand(net))

    def test_where_the_points_lie_does_not_matter(self):
        net = Net(POINTS, FAN)
        net[3] = (0, 0)
        net[2] = (-5, -5)
        self.assertEqual(net.rim(), [(0, 1), (1, 2), (2, 0)])


class TurnsTest(Case):
    def closed(self, points):
        return list(zip(points, points[1:] + points[:1]))

    def assert_turns(self, ways, points):
        for half, point in itertools.product(HALVES, points):
            expected = times_round(half, ways, point)
            self.assertEqual(turns(half, ways, point), expected)
            as_points = [(Point(*a), Point(*b)) for a, b in ways]
            self.assertEqual(turns(half, as_points, Point(*point)), expected)

    def test_once_twice_and_the_other_way(self):
        field = [(0, 0), (4, 0), (4, 4), (0, 4)]
        for half in HALVES:
            self.assertEqual(turns(half, self.closed(field), (2, 1)), 1)
            self.assertEqual(turns(half, self.closed(field[::-1]), (2, 1)), -1)
            self.assertEqual(turns(half, self.closed(field + field), (2, 1)), 2)
            self.assertEqual(turns(half, self.closed(field) * 3, (2, 1)), 3)
            self.assertEqual(turns(half, self.closed(field) + self.closed(field[::-1]), (2, 1)), 0)
            self.assertEqual(turns(half, self.closed(field), (5, 4)), 0)
            self.assertEqual(turns(half, [], (2, 1)), 0)

    def test_on_a_way_at_a_corner_and_on_the_level_of_a_corner(self):
        for points in [[(0, 0), (4, 0), (4, 4), (0, 4)], [(0, 0), (4, 0), (4, 4), (0, 4)] * 2,
                       [(0, 4), (4, 4), (4, 0), (0, 0)], [(0, 2), (2, 0), (4, 2), (2, 4)],
                       [(0, 0), (4, 4), (4, 0), (0, 4)], [(0, 0), (5, 1), (2, 2), (5, 4), (1, 5)],
                       [(0, 0), (4, 2)], [(2, 2)], [(2, 2), (2, 2)], [(0, 0), (2, 0), (4, 0), (4, 3), (4, 1)]]:
            self.assert_turns(self.closed(points), square(-1, 6))

    def test_mixed_ways(self):
        source = random.Random(7)
        for number in range(25):
            points = [(source.randint(0, 4), source.randint(0, 4)) for at in range(source.randint(1, 8))]
            self.assert_turns(self.closed(points), square(-1, 5)[::2])

    def test_thirty_digits(self):
        points = [(0, 0), (4 * GREAT, 2), (-2, 4 * GREAT + 8), (-GREAT, -1)]
        places = [*points, (2 * GREAT, 1), (-1, 2 * GREAT + 4), (2 * GREAT, 2), (2 * GREAT, 0), (1, 1), (0, -1)]
        self.assert_turns(self.closed(points), places)

    def test_ways_that_are_not_closed(self):
        # By the words of the document, whatever they count there.
        for half in HALVES:
            self.assertEqual(turns(half, [((4, -2), (4, 2))], (0, 0)), 1)
            self.assertEqual(turns(half, [((4, 2), (4, -2))], (0, 0)), -1)
            self.assertEqual(turns(half, [((-4, -2), (-4, 2))], (0, 0)), 0)
            self.assertEqual(turns(half, [((-4, 2), (-4, -2))], (0, 0)), 0)

    def test_names_and_unchanged_lists(self):
        ways = self.closed(POINTS[:3])
        self.assertEqual(turns(point=(1, 1), ways=ways, half=HALVES[0]), 1)
        self.assertEqual(ways, self.closed(POINTS[:3]))

    def test_no_point_ahead_of_no_ways(self):
        for thing in NO_POINTS:
            for ways in [[], None, [None]]:
                self.assertIs(self.refused(InvalidPoint, turns, HALVES[0], ways, thing).thing, thing)

    def test_no_list_of_ways(self):
        for ways in [None, True, 0, "", (), tuple(self.closed(POINTS)), {}, set(), Net(POINTS, FAN), Point(1, 2)]:
            self.assertIsNone(self.refused(InvalidWays, turns, HALVES[0], ways, (1, 1)).number)

    def test_no_way(self):
        good = ((0, 0), Point(1, 1))
        for thing in [None, True, 0, "ab", (), (0, 1), Point(0, 1), ((0, 0),), ((0, 0), (1, 1), (2, 2)),
                      [(0, 0), (1, 1)], ((0, 0), None), (None, (0, 0)), ((0, 0), [1, 1]), ((0, True), (1, 1))]:
            for at in range(3):
                ways = [good, good]
                ways.insert(at, thing)
                error = self.refused(InvalidWays, turns, HALVES[0], [*ways, None], (1, 1))
                self.assertEqual(error.number, at)


class RimTurnsTest(Case):
    def test_equal_to_the_signed_count(self):
        for net in mixed_nets():
            for half, point in itertools.product(HALVES[::3], square(-1, 6)):
                self.assertEqual(rim_turns(half, net, point), signed(half, net, point))

    def test_thirty_digits(self):
        net = Net([(0, 0), (4 * GREAT, 2), (-2, 4 * GREAT + 8), (GREAT, GREAT)], [*FAN, (0, 2, 1), (2, 3, 1)])
        for half in HALVES:
            for point in [*net.points(), (2 * GREAT, 1), (-1, 2 * GREAT + 4), (1, 1), (GREAT, 1)]:
                self.assertEqual(rim_turns(half, net, point), signed(half, net, point))

    def test_points_on_no_way_of_the_rim_may_be_moved(self):
        for moved in square(-3, 7):
            net = Net(POINTS, FAN)
            net[3] = moved
            for half, point in itertools.product(HALVES[::5], square(-1, 5)):
                expected = 1 if owns(half, Triangle(*POINTS[:3]), point) else 0
                self.assertEqual(signed(half, net, point), expected)
                self.assertEqual(rim_turns(half, net, point), expected)

    def test_by_name(self):
        self.assertEqual(rim_turns(point=(1, 1), net=Net(POINTS, FAN), half=HALVES[0]), 1)


class SnappedTest(Case):
    def test_nearest_multiples(self):
        numbers = range(-13, 14)
        for many in [1, 2, 3, 4, 5, 10]:
            multiples = range(-20 * many, 21 * many, many)
            for y in [-7, 0, 6]:
                found = snapped(Net([(x, y) for x in numbers], []), many)
                expected = [tuple(min(multiples, key=lambda near: (abs(near - worth), -near)) for worth in (x, y))
                            for x in numbers]
                self.assert_points(found.points(), expected)

    def test_named_numbers(self):
        self.assert_points(snapped(Net([(5, -5), (6, 2), (-6, -2), (7, -7)], []), 4).points(),
                           [(4, -4), (8, 4), (-4, 0), (8, -8)])
        self.assert_points(snapped(Net([(GREAT, -GREAT)], []), 10 ** 30).points(), [(10 ** 30, -10 ** 30)])
        self.assert_points(snapped(Net([(5 * GREAT, -5 * GREAT)], []), 2 * GREAT).points(), [(6 * GREAT, -4 * GREAT)])

    def test_a_new_net_with_the_same_triples(self):
        net = Net(POINTS, FAN)
        found = snapped(many=1, net=net)
        self.assertIs(type(found), Net)
        self.assertIsNot(found, net)
        self.assertEqual(found, net)
        found[0] = (8, 8)
        self.assertEqual(net, Net(POINTS, FAN))
        self.assertEqual(snapped(net, 100), Net([(0, 0)] * 4, FAN))
        self.assertEqual(net, Net(POINTS, FAN))

    def test_no_number(self):
        for many in [0, -1, -GREAT, *NO_INTEGERS]:
            self.assertIs(self.refused(InvalidNumber, snapped, Net(POINTS, FAN), many).number, many)


class UnlikeTest(Case):
    def test_mixed_nets(self):
        nets = mixed_nets()
        grids = itertools.cycle([Grid.unit(), Grid(2, (1, 0)), Grid(3, (0, -1))])
        halves = itertools.cycle(HALVES)
        seen = collections.Counter()
        for one, other, grid, half in zip(nets, nets[3:] + nets[:3], grids, halves):
            found = unlike(half, one, other, grid)
            self.assertIs(type(found), Samples)
            expected = [point for point in square(-1, 7) if point in grid
                        and counted_owners(half, one, point) != counted_owners(half, other, point)]
            self.assert_points(found.points(), expected)
            seen[len(expected) > 0] += 1
        self.assertGreater(seen[True], 20)

    def test_alike(self):
        for net in mixed_nets():
            self.assertEqual(len(unlike(HALVES[0], net, net.twin(), Grid.unit())), 0)

    def test_the_pair_counts_not_the_difference(self):
        one = Net(STRIP, [(0, 1, 2), (0, 2, 1)])
        self.assertEqual(signed(HALVES[0], one, (1, 1)), 0)
        found = unlike(other=Net([], []), one=one, grid=Grid.unit(), half=HALVES[0])
        self.assertIn((1, 1), found)

    def test_far_points_and_flat_triples_do_not_matter(self):
        one = Net([*POINTS, (GREAT, GREAT), (2 * GREAT, 2 * GREAT)], [(0, 1, 2), (0, 4, 5)])
        found = unlike(Half((1, 0), True), one, Net([], []), Grid(2, (0, 0)))
        self.assert_points(found.points(), [(2, 0), (4, 0), (2, 2)])

    def test_thirty_digits(self):
        step = 10 ** 29
        one = Net([(0, 0), (4 * step, 0), (0, 4 * step)], [(0, 1, 2)])
        found = unlike(Half((1, 0), True), one, Net([], []), Grid(2 * step, (0, 0)))
        self.assert_points(found.points(), [(2 * step, 0), (4 * step, 0), (2 * step, 2 * step)])


if __name__ == "__main__":
    unittest.main()
