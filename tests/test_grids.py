"""3.3 and 3.4: grids, sets of samples, owned samples."""

import itertools
import types
import unittest

from filledonce.errors import InvalidGrid, InvalidPoint, InvalidSamples
from filledonce.grids import Grid, Samples, owned
from filledonce.points import Point
from filledonce.rules import Half, Table
from filledonce.triangles import Triangle, owns
from tests.common import GREAT, NO_INTEGERS, NO_POINTS, Case, pairs, square

GRIDS = [Grid.unit(), Grid(2, (0, 0)), Grid(2, (1, 0)), Grid(3, (1, -1)), Grid(5, (-7, 4)), Grid(1, (6, 6))]

RULES = [Half((1, 0), True), Half((1, 0), False), Half((0, -1), True), Half((2, 1), False), Half((-1, -3), True),
         Table.nothing(), ~Table.nothing(), Table([True, False, True, True, False, False, True, False])]

POINTS = [(1, 2), (0, 0), (-3, 2), (5, -1), (1, 2), (0, 7), (-3, 2), (0, 2)]


class GridTest(Case):
    def test_in(self):
        for step, at in [(1, (0, 0)), (2, (0, 0)), (3, (1, -1)), (3, (-5, 8)), (7, (GREAT, -GREAT))]:
            grid = Grid(step, at)
            for point in square(-8, 8):
                expected = (point[0] - at[0]) % step == 0 and (point[1] - at[1]) % step == 0
                self.assert_truth(point in grid, expected)
                self.assert_truth(Point(*point) in grid, expected)

    def test_in_for_any_value(self):
        for grid in GRIDS:
            for thing in [*NO_POINTS, grid, Samples([(0, 0)])]:
                with self.subTest(thing=thing):
                    self.assert_truth(thing in grid, False)

    def test_points_pairs_and_names(self):
        for grid in [Grid(3, (1, -1)), Grid(3, Point(1, -1)), Grid(at=(1, -1), step=3)]:
            self.assert_truth((4, 2) in grid, True)
            self.assert_truth((2, 4) in grid, False)

    def test_steps(self):
        self.assert_truth((10 ** 30 + 1, 1 - 10 ** 30) in Grid(10 ** 30, (1, 1)), True)
        self.assert_truth((10 ** 30, 1) in Grid(10 ** 30, (1, 1)), False)
        for step in [0, -1, -5, 10 ** 30 + 1, 10 ** 40, *NO_INTEGERS]:
            for at in [(0, 0), None]:
                with self.subTest(step=step, at=at):
                    self.assertEqual(self.refused(InvalidGrid, Grid, step, at).part, "step")

    def test_at(self):
        for thing in NO_POINTS:
            for step in [1, 10 ** 30]:
                self.assertEqual(self.refused(InvalidGrid, Grid, step, thing).part, "at")

    def test_unit(self):
        grid = Grid.unit()
        self.assertIs(type(grid), Grid)
        self.assert_equal_both_ways(grid, Grid(1, (0, 0)))
        for point in square(-3, 3):
            self.assert_truth(point in grid, True)

    def test_equal_if_the_samples_are(self):
        for step in [1, 2, 3, 5]:
            for one, other in itertools.product(square(-3, 3), repeat=2):
                same = (one[0] - other[0]) % step == 0 and (one[1] - other[1]) % step == 0
                self.assertIs(Grid(step, one) == Grid(step, other), same)
        for one, other in itertools.permutations([1, 2, 3, 4, 6], 2):
            self.assert_unlike_both_ways(Grid(one, (0, 0)), Grid(other, (0, 0)))
        self.assert_equal_both_ways(Grid(7, (GREAT, 3)), Grid(7, (GREAT % 7 - 70, 3 + 7 * GREAT)))

    def test_no_other_value(self):
        self.assert_equals_no_foreign_value(Grid.unit(), Point(0, 0), (1, (0, 0)), Samples([]), Half((1, 0), True))


class BetweenTest(Case):
    def test_boxes(self):
        corners = [(-7, -5), (-2, -2), (0, 0), (1, 2), (1, 5), (4, 2), (6, -4), (8, 8)]
        for grid in GRIDS:
            for low, high in itertools.product(corners, repeat=2):
                expected = [point for point in square(-7, 8) if point in grid
                            and low[0] <= point[0] <= high[0] and low[1] <= point[1] <= high[1]]
                self.assert_points(list(grid.between(low, high)), expected)

    def test_many_one_and_none(self):
        grid = Grid(3, (1, -1))
        self.assertEqual(pairs(grid.between((0, 0), (5, 5))), [(1, 2), (4, 2), (1, 5), (4, 5)])
        self.assertEqual(pairs(grid.between((1, 2), (1, 2))), [(1, 2)])
        self.assertEqual(pairs(grid.between((2, 3), (3, 4))), [])
        self.assertEqual(pairs(grid.between((2, 2), (3, 2))), [])
        self.assertEqual(pairs(grid.between((5, 5), (0, 0))), [])
        self.assertEqual(pairs(grid.between((0, 5), (5, 0))), [])
        self.assertEqual(pairs(grid.between((5, 0), (0, 5))), [])

    def test_boxes_without_a_sample_are_left_at_once(self):
        grid = Grid(3, (1, -1))
        for low, high in [((2, -GREAT), (3, GREAT)), ((-GREAT, 3), (GREAT, 4)), ((5, 0), (4, GREAT)),
                          ((GREAT, GREAT), (0, 0))]:
            self.assertEqual(list(grid.between(low, high)), [])

    def test_thirty_digits(self):
        step = 10 ** 30
        found = Grid(step, (7, -7)).between((-step, -step), (step + 7, step))
        self.assertEqual(pairs(found), [(7 + x * step, y * step - 7) for y in (0, 1) for x in (-1, 0, 1)])

    def test_a_generator_that_goes_on_without_an_end_in_sight(self):
        found = Grid.unit().between((0, 0), (GREAT, GREAT))
        self.assertIsInstance(found, types.GeneratorType)
        self.assertEqual(pairs(itertools.islice(found, 3)), [(0, 0), (1, 0), (2, 0)])

    def test_points_and_names(self):
        self.assertEqual(pairs(Grid.unit().between(high=Point(1, 0), low=Point(0, 0))), [(0, 0), (1, 0)])

    def test_no_point_when_it_begins(self):
        for thing in NO_POINTS:
            for low, high in [(thing, (1, 1)), ((0, 0), thing), (thing, None)]:
                with self.subTest(low=low, high=high):
                    found = Grid.unit().between(low, high)
                    self.assertIs(self.refused(InvalidPoint, next, found).thing, thing)


class SamplesTest(Case):
    def test_points(self):
        samples = Samples(POINTS)
        self.assert_points(samples.points(), [(5, -1), (0, 0), (-3, 2), (0, 2), (1, 2), (0, 7)])
        self.assertEqual(len(samples), 6)

    def test_points_of_every_order(self):
        around = [(3, -2), (-1, 0), (0, 0), (4, 0), (-1, 5)]
        for mixed in itertools.permutations(around):
            self.assert_points(Samples(list(mixed) + list(mixed[:2])).points(), around)

    def test_a_square(self):
        found = Samples(square(-5, 5)[::-1] + square(-2, 7))
        expected = sorted({*square(-5, 5), *square(-2, 7)}, key=lambda pair: (pair[1], pair[0]))
        self.assert_points(found.points(), expected)
        self.assertEqual(len(found), len(expected))

    def test_empty(self):
        for samples in [Samples([]), Samples(points=[])]:
            self.assertEqual(samples.points(), [])
            self.assertEqual(len(samples), 0)
            self.assert_truth((0, 0) in samples, False)

    def test_great_numbers(self):
        mixed = [(GREAT, 0), (-GREAT, 1), (0, -GREAT), (-GREAT, -GREAT), (0, 0), (GREAT, GREAT), (GREAT + 1, 0)]
        self.assert_points(Samples(mixed).points(), [(-GREAT, -GREAT), (0, -GREAT), (0, 0), (GREAT, 0), (GREAT + 1, 0),
                                                     (-GREAT, 1), (GREAT, GREAT)])

    def test_points_and_pairs_are_alike(self):
        samples = Samples([Point(1, 2), (1, 2), Point(1, 2)])
        self.assertEqual(len(samples), 1)
        self.assert_points(samples.points(), [(1, 2)])

    def test_the_list_passed_is_neither_changed_nor_kept(self):
        passed = list(POINTS)
        samples = Samples(passed)
        self.assertEqual(passed, POINTS)
        passed.clear()
        self.assertEqual(len(samples), 6)

    def test_points_is_new_each_time(self):
        samples = Samples(POINTS)
        self.assertIsNot(samples.points(), samples.points())
        samples.points().clear()
        self.assertEqual(len(samples.points()), 6)

    def test_no_list(self):
        for thing in [None, True, 0, "", "ab", (), ((1, 2), (3, 4)), {}, {(1, 2): 3}, set(), Samples([]), Point(1, 2)]:
            with self.subTest(thing=thing):
                self.assertIsNone(self.refused(InvalidSamples, Samples, thing).number)

    def test_an_entry_is_no_point(self):
        for thing in NO_POINTS:
            for at in range(3):
                passed = [(1, 2), Point(3, 4)]
                passed.insert(at, thing)
                self.assertEqual(self.refused(InvalidSamples, Samples, [*passed, None]).number, at)

    def test_in(self):
        samples = Samples(POINTS)
        for point in square(-8, 8):
            self.assert_truth(point in samples, point in POINTS)
            self.assert_truth(Point(*point) in samples, point in POINTS)
        for thing in [*NO_POINTS, samples, [1, 2]]:
            with self.subTest(thing=thing):
                self.assert_truth(thing in samples, False)

    def test_signs(self):
        for one, other in itertools.product([[], POINTS, POINTS[:3], [(0, 0), (9, 9)], square(0, 2)], repeat=2):
            a, b = Samples(one), Samples(other)
            for found, expected in [(a | b, {*one} | {*other}), (a & b, {*one} & {*other}), (a - b, {*one} - {*other})]:
                self.assertIs(type(found), Samples)
                self.assert_points(found.points(), sorted(expected, key=lambda pair: (pair[1], pair[0])))
            self.assertIs(a <= b, {*one} <= {*other})
            self.assertIs(a == b, {*one} == {*other})
            self.assertIs(a != b, {*one} != {*other})
            self.assertEqual((a, b), (Samples(one), Samples(other)))

    def test_no_other_value(self):
        samples = Samples([(1, 2), (3, 4)])
        self.assert_equals_no_foreign_value(samples, [(1, 2), (3, 4)], samples.points(), {(1, 2), (3, 4)}, Point(1, 2))
        self.assert_equals_no_foreign_value(Samples([]), Table.nothing())


class OwnedTest(Case):
    def test_just_those_that_are_owned(self):
        threes = [[(0, 0), (4, 0), (0, 4)], [(0, 0), (5, 1), (2, 6)], [(-3, -2), (0, 5), (3, -2)],
                  [(0, 0), (6, 3), (2, 2)], [(-4, 5), (6, 5), (1, -3)], [(0, 0), (1, 0), (0, 1)],
                  [(-5, -5), (6, 5), (5, 4)], [(6, 0), (6, 6), (-5, 3)]]
        for three, grid, rule in itertools.product(threes, GRIDS, RULES):
            triangle = Triangle(*three)
            found = owned(rule, triangle, grid)
            self.assertIs(type(found), Samples)
            expected = [point for point in square(-6, 7) if point in grid and owns(rule, triangle, point)]
            self.assert_points(found.points(), expected)

    def test_by_name(self):
        found = owned(grid=Grid.unit(), triangle=Triangle((0, 0), (2, 0), (0, 2)), rule=Half((1, 0), True))
        self.assert_points(found.points(), [(1, 0), (2, 0), (1, 1)])

    def test_thirty_digits(self):
        step = 10 ** 29
        triangle = Triangle((0, 0), (4 * step, 0), (0, 4 * step))
        for rule in RULES:
            small = owned(rule, Triangle((0, 0), (4, 0), (0, 4)), Grid.unit()).points()
            found = owned(rule, triangle, Grid(step, (step * 7, -step)))
            self.assert_points(found.points(), [(point * step).pair() for point in small])

    def test_a_thin_triangle(self):
        found = owned(~Table.nothing(), Triangle((0, 0), (2000, 2000), (2000, 1999)), Grid.unit())
        self.assert_points(found.points(), [*[(x, x) for x in range(2000)], (2000, 1999), (2000, 2000)])

    def test_a_long_triangle_with_few_samples(self):
        triangle = Triangle((0, 0), (10 ** 30, 0), (0, 1))
        found = owned(~Table.nothing(), triangle, Grid(10 ** 30, (0, 0)))
        self.assert_points(found.points(), [(0, 0), (10 ** 30, 0)])


if __name__ == "__main__":
    unittest.main()
