"""10.1 to 10.3: sums of quotients, amounts of owned samples, twins of triangles."""

import itertools
import random
import unittest

from filledonce.counting import amount, floor_sum, twin_of
from filledonce.errors import InvalidNumber
from filledonce.grids import Grid, owned
from filledonce.points import Point
from filledonce.rules import Half, Table, all_tables
from filledonce.triangles import Triangle
from filledonce.witnesses import is_right
from tests.common import GREAT, NO_INTEGERS, TRUTHS, Case, pairs

HALVES = [Half(way, ahead) for way in [(1, 0), (0, 1), (-1, 0), (0, -1), (2, 1), (-1, 1), (-3, -2), (1, -4)]
          for ahead in TRUTHS]

TABLES = list(all_tables())[::37] + [Table.nothing(), ~Table.nothing()]

GRIDS = [Grid.unit(), Grid(2, (0, 0)), Grid(2, (1, -1)), Grid(3, (-1, 1)), Grid(5, (2, 3)), Grid(40, (0, 0))]

CORNERS = [[(0, 0), (4, 0), (0, 4)], [(0, 0), (4, 0), (7, 3)], [(0, 4), (4, 4), (2, 0)], [(-4, -1), (1, -1), (3, -5)],
           [(0, 0), (3, 2), (1, 5)], [(0, 0), (-3, 2), (1, 5)], [(-20, -3), (40, -1), (-10, 30)],
           [(0, 0), (50, 1), (-40, 2)], [(0, 0), (1, 33), (1, 34)], [(0, 0), (0, 50), (1, 20)],
           [(0, 0), (1, 0), (0, 1)]]


def mixed_triangles():
    """Triangles of all kinds, the same in every run."""
    source = random.Random(59)
    found = [Triangle(*corners) for corners in CORNERS]
    while len(found) < 45:
        a, b, c = [(source.randint(-12, 12), source.randint(-12, 12)) for at in range(3)]
        if (b[0] - a[0]) * (c[1] - a[1]) != (b[1] - a[1]) * (c[0] - a[0]):
            found.append(Triangle(a, b, c))
    return found


def sum_by_hand(many, top, add, bottom):
    return sum((top * i + add) // bottom for i in range(many))


class FloorSumTest(Case):
    def test_small_numbers(self):
        self.assertEqual(floor_sum(4, 3, 1, 2), 10)
        for many, top, add, bottom in itertools.product(range(7), range(-9, 10), range(-9, 10), range(1, 8)):
            self.assertEqual(floor_sum(many, top, add, bottom), sum_by_hand(many, top, add, bottom))

    def test_mixed_numbers(self):
        source = random.Random(61)
        for number in range(400):
            many, bottom = source.randint(0, 300), source.randint(1, 10 ** source.randint(1, 40))
            top, add = [source.randint(-10 ** 40, 10 ** 40) // 10 ** source.randint(0, 39) for at in range(2)]
            self.assertEqual(floor_sum(many, top, add, bottom), sum_by_hand(many, top, add, bottom))

    def test_none_and_one(self):
        for top, add, bottom in [(GREAT, GREAT, 1), (-GREAT, -GREAT, 7), (3, -1, GREAT), (0, 0, 1)]:
            self.assertEqual(floor_sum(0, top, add, bottom), 0)
            self.assertEqual(floor_sum(1, top, add, bottom), add // bottom)

    def test_a_many_of_thirty_digits(self):
        many = GREAT
        self.assertEqual(floor_sum(many, 1, 0, 1), many * (many - 1) // 2)
        self.assertEqual(floor_sum(many, 0, -5, 2), -3 * many)
        self.assertEqual(floor_sum(2 * many, 1, 0, 2), many * (many - 1))
        self.assertEqual(floor_sum(many, -2, 1, 1), -many * (many - 1) + many)

    def test_great_numbers_by_laws(self):
        source = random.Random(67)
        for digits in [30, 35, 100]:
            for number in range(40):
                many, top, bottom = [source.randint(1, 10 ** digits) for at in range(3)]
                add = source.randint(-10 ** digits, 10 ** digits)
                found = floor_sum(many, top, add, bottom)
                cut = source.randint(0, many)
                self.assertEqual(found, floor_sum(cut, top, add, bottom)
                                 + floor_sum(many - cut, top, add + top * cut, bottom))
                self.assertEqual(found, floor_sum(many, -top, add + top * (many - 1), bottom))
                self.assertEqual(floor_sum(many, top + bottom, add - bottom, bottom),
                                 found + many * (many - 1) // 2 - many)
                self.assertLessEqual(found * bottom, top * many * (many - 1) // 2 + add * many)
                self.assertGreater((found + many) * bottom, top * many * (many - 1) // 2 + add * many)

    def test_long_numbers_that_share_nothing(self):
        # Two that follow one another in this row are divided most often.
        one, other = 1, 1
        while other < 10 ** 200:
            one, other = other, one + other
        # With many equal to bottom and no common divisor each rest comes once.
        self.assertEqual(floor_sum(other, one, 0, other), (one - 1) * (other - 1) // 2)

    def test_names(self):
        self.assertEqual(floor_sum(bottom=2, add=1, top=3, many=4), 10)

    def test_wrong_numbers(self):
        good = [4, 3, 1, 2]
        for at, wrong in [(at, thing) for at in range(4) for thing in NO_INTEGERS] + [(0, -1), (3, 0), (3, -1)]:
            passed = list(good)
            passed[at] = wrong
            self.assertIs(self.refused(InvalidNumber, floor_sum, *passed).number, wrong)

    def test_the_first_wrong_number(self):
        wrong = [-1, None, "add", 0]
        for at in range(4):
            passed = [4, 3, 1, 2][:at] + wrong[at:]
            self.assertIs(self.refused(InvalidNumber, floor_sum, *passed).number, wrong[at])


class AmountTest(Case):
    def test_it_is_the_number_of_owned_samples(self):
        for triangle, grid in itertools.product(mixed_triangles(), GRIDS):
            for rule in HALVES[::3] + TABLES[::2]:
                self.assertEqual(amount(rule, triangle, grid), len(owned(rule, triangle, grid)))

    def test_all_rules_on_a_few_triangles(self):
        triangles = [Triangle(*corners) for corners in CORNERS[:6]]
        for triangle, rule in itertools.product(triangles, [*HALVES, *all_tables()]):
            self.assertEqual(amount(rule, triangle, Grid.unit()), len(owned(rule, triangle, Grid.unit())))

    def test_low_and_high(self):
        bounds = [None, -40, -6, -5, -4, -1, 0, 1, 2, 3, 4, 5, 9, 50]
        for triangle, grid in itertools.product(mixed_triangles()[:20], GRIDS[:4]):
            for rule in [HALVES[1], HALVES[8], TABLES[3]]:
                rows = [point.y for point in owned(rule, triangle, grid).points()]
                for low, high in itertools.product(bounds, repeat=2):
                    expected = [y for y in rows if (low is None or low <= y) and (high is None or y <= high)]
                    self.assertEqual(amount(rule, triangle, grid, low=low, high=high), len(expected))

    def test_one_bound(self):
        triangle, half = Triangle((0, 0), (4, 0), (0, 4)), Half((1, 0), True)
        self.assertEqual(amount(half, triangle, Grid.unit()), 10)
        self.assertEqual(amount(half, triangle, Grid.unit(), low=1), 6)
        self.assertEqual(amount(half, triangle, Grid.unit(), high=1), 7)
        self.assertEqual(amount(half, triangle, Grid.unit(), low=1, high=1), 3)
        self.assertEqual(amount(half, triangle, Grid.unit(), low=2, high=1), 0)
        self.assertEqual(amount(half, triangle, Grid.unit(), low=GREAT), 0)
        self.assertEqual(amount(half, triangle, Grid.unit(), high=-GREAT), 0)
        self.assertEqual(amount(half, triangle, Grid.unit(), low=-GREAT, high=GREAT), 10)

    def test_names(self):
        triangle, half = Triangle((0, 0), (2, 0), (0, 2)), Half((1, 0), True)
        self.assertEqual(amount(high=None, low=None, grid=Grid.unit(), triangle=triangle, rule=half), 3)
        with self.assertRaises(TypeError):
            amount(half, triangle, Grid.unit(), 0)
        with self.assertRaises(TypeError):
            amount(half, triangle, Grid.unit(), 0, 1)

    def test_wrong_bounds(self):
        triangle, half = Triangle((0, 0), (2, 0), (0, 2)), Half((1, 0), True)
        for thing in [thing for thing in NO_INTEGERS if thing is not None]:
            for named in [{"low": thing}, {"high": thing}, {"low": thing, "high": "b"}, {"low": 0, "high": thing}]:
                self.assertIs(self.refused(InvalidNumber, amount, half, triangle, Grid.unit(), **named).number, thing)

    def test_thirty_digits(self):
        # Points with whole numbers within (0, 0), (n, 0), (0, n), counted row by row.
        n = GREAT
        triangle = Triangle((0, 0), (n, 0), (0, n))
        nothing, everything = Table.nothing(), ~Table.nothing()
        self.assertEqual(amount(nothing, triangle, Grid.unit()), (n - 1) * (n - 2) // 2)
        self.assertEqual(amount(everything, triangle, Grid.unit()), (n + 1) * (n + 2) // 2)
        self.assertEqual(amount(everything, triangle, Grid.unit(), low=n), 1)
        self.assertEqual(amount(everything, triangle, Grid.unit(), low=n - 2, high=n), 6)

    def test_thirty_digits_with_a_great_step(self):
        step = 10 ** 30
        for triangle, rule in itertools.product(mixed_triangles()[::3], HALVES[::4] + TABLES[::3]):
            great = Triangle(*[corner * step for corner in triangle.corners()])
            expected = amount(rule, triangle, Grid.unit())
            self.assertEqual(amount(rule, great, Grid(step, (0, 0))), expected)
            self.assertEqual(amount(rule, great.moved((7, -9)), Grid(step, (7, -9))), expected)

    def test_thirty_digits_by_the_points_on_the_rim(self):
        # Twice the area is twice the points within and once those on the edges, less 2.
        source = random.Random(71)
        for number in range(40):
            a, b, c = [(source.randint(-10 ** 30, 10 ** 30), source.randint(-10 ** 30, 10 ** 30)) for at in range(3)]
            triangle = Triangle(a, b, c)
            within = amount(Table.nothing(), triangle, Grid.unit())
            every = amount(~Table.nothing(), triangle, Grid.unit())
            self.assertEqual(triangle.area2, within + every - 2)

    def test_thirty_digits_in_parts(self):
        source = random.Random(73)
        for number in range(40):
            a, b, c = [(source.randint(-10 ** 32, 10 ** 32), source.randint(-10 ** 32, 10 ** 32)) for at in range(3)]
            triangle, rule = Triangle(a, b, c), HALVES[number % len(HALVES)]
            grid = Grid(source.randint(1, 10 ** 20), (source.randint(0, 99), source.randint(0, 99)))
            cut = source.randint(-10 ** 32, 10 ** 32)
            self.assertEqual(amount(rule, triangle, grid, high=cut) + amount(rule, triangle, grid, low=cut + 1),
                             amount(rule, triangle, grid))

    def test_a_high_and_thin_triangle(self):
        triangle = Triangle((0, 0), (1, 0), (0, GREAT))
        self.assertEqual(amount(~Table.nothing(), triangle, Grid.unit()), GREAT + 2)
        self.assertEqual(amount(Table.nothing(), triangle, Grid.unit()), 0)


class TwinTest(Case):
    def test_its_corners(self):
        for triangle in mixed_triangles():
            a, b, c = triangle.corners()
            found = twin_of(triangle)
            self.assertIs(type(found), Triangle)
            self.assertEqual(found, Triangle(b, c, b + c - a))
            self.assertEqual(found.area2, triangle.area2)
            self.assertEqual(sorted(pairs(found.corners())), sorted(pairs([b, c, b + c - a])))
        self.assertEqual(twin_of(triangle=Triangle((0, 0), (2, 0), (0, 2))), Triangle((2, 0), (2, 2), (0, 2)))
        for corner in twin_of(Triangle((0, 0), (2, 0), (0, 2))).corners():
            self.assertIs(type(corner), Point)

    def test_both_together(self):
        rules = [rule for rule in all_tables() if is_right(rule)] + HALVES
        for triangle, rule in itertools.product(mixed_triangles(), rules):
            for at in [(0, 0), (5, -3)]:
                found = amount(rule, triangle, Grid(1, at)) + amount(rule, twin_of(triangle), Grid(1, at))
                self.assertEqual(found, triangle.area2)

    def test_both_together_with_steps(self):
        for step, at, rule in itertools.product([2, 3, 7], [(0, 0), (1, 0), (-1, 2)], HALVES):
            for corners in CORNERS[:6]:
                triangle = Triangle(*[Point(*corner) * step for corner in corners]).moved((11, -4))
                found = amount(rule, triangle, Grid(step, at)) + amount(rule, twin_of(triangle), Grid(step, at))
                self.assertEqual(found * step * step, triangle.area2)

    def test_both_together_with_thirty_digits(self):
        source = random.Random(79)
        for number in range(60):
            step = source.choice([1, 2, 10 ** 6 + 3, 10 ** 15])
            a, u, v = [Point(source.randint(-GREAT, GREAT), source.randint(-GREAT, GREAT)) for at in range(3)]
            triangle, rule = Triangle(a, a + u * step, a + v * step), HALVES[number % len(HALVES)]
            grid = Grid(step, (source.randint(-99, 99), source.randint(-99, 99)))
            found = amount(rule, triangle, grid) + amount(rule, twin_of(triangle), grid)
            self.assertEqual(found * step * step, triangle.area2)


if __name__ == "__main__":
    unittest.main()
