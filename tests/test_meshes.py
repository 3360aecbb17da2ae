"""5.1 to 5.3: meshes, points inside, owners, judged samples."""

import itertools
import unittest

from filledonce.errors import InvalidMesh, InvalidNumber, InvalidPoint, Overlap
from filledonce.grids import Grid, Samples
from filledonce.meshes import Mesh, inside, judged, owners
from filledonce.points import Point
from filledonce.rules import Half, Table, all_tables, half_of
from filledonce.triangles import Triangle, owns
from tests.common import GREAT, NO_INTEGERS, NO_POINTS, TRUTHS, Case, pairs, square

HALVES = [Half(way, ahead) for way in [(1, 0), (0, 1), (-1, 0), (0, -1), (1, 1), (-2, 1), (3, -5)] for ahead in TRUTHS]

WRONG = [Table.nothing(), ~Table.nothing(), Table([True, False] * 4), Table([True, True, False, False] * 2),
         Table([True, False, False, True, False, True, True, False])]

TWO = [[(0, 0), (4, 0), (0, 4)], [(4, 0), (4, 4), (0, 4)]]

# A corner of two triangles, (4, 4), is the middle of an edge of a third one.
ON_AN_EDGE = [[(0, 4), (4, 4), (0, 8)], [(4, 4), (8, 4), (8, 8)], [(4, 4), (8, 8), (0, 8)], [(0, 4), (4, 0), (8, 4)]]

AROUND = [[(4, 4), (8, 4), (4, 8)], [(4, 4), (4, 8), (0, 4)], [(4, 4), (0, 4), (4, 0)], [(4, 4), (4, 0), (8, 4)]]

BESIDE = [[(0, 0), (4, 0), (0, 4)], [(4, 4), (8, 4), (4, 8)], [(2, 2), (6, 2), (4, 0)]]


def quarters(many):
    """The four triangles of each of many by many fields of side 2."""
    found = []
    for x, y in square(0, many - 1):
        around = [(2 * x, 2 * y), (2 * x + 2, 2 * y), (2 * x + 2, 2 * y + 2), (2 * x, 2 * y + 2)]
        for at in range(4):
            found.append([around[at - 1], around[at], (2 * x + 1, 2 * y + 1)])
    return found


def halved(wide, high):
    """Two triangles of each of wide by high fields of side 2."""
    found = []
    for x, y in itertools.product(range(wide), range(high)):
        a, b, c, d = (2 * x, 2 * y), (2 * x + 2, 2 * y), (2 * x + 2, 2 * y + 2), (2 * x, 2 * y + 2)
        found.extend([[a, b, c], [a, c, d]])
    return found


THREES = [[], TWO[:1], TWO, ON_AN_EDGE, ON_AN_EDGE[:3], ON_AN_EDGE[1:], AROUND, AROUND[:3], AROUND[::2], BESIDE,
          quarters(2), quarters(1), quarters(2)[::3], halved(3, 2), halved(1, 4)]


def made(threes):
    return Mesh([Triangle(*three) for three in threes])


def near_all_round(threes, point):
    """Whether all points close to one are within triangles, told by trying very many of them."""
    triangles = [Triangle(*[(x * 1000, y * 1000) for x, y in three]) for three in threes]
    tried = [(point[0] * 1000 + x, point[1] * 1000 + y) for x, y in square(-17, 17)]
    touched = [triangle for triangle in triangles if (point[0] * 1000, point[1] * 1000) in triangle]
    return all(any(near in triangle for triangle in touched) for near in tried)


class MakingTest(Case):
    def test_triangles(self):
        for threes in THREES:
            triangles = [Triangle(*three) for three in threes]
            for mesh in [Mesh(triangles), Mesh(triangles=triangles)]:
                found = mesh.triangles()
                self.assertIs(type(found), list)
                self.assertEqual(found, triangles)
                self.assertEqual(len(mesh), len(threes))
                self.assertEqual([mesh[number] for number in range(len(threes))], triangles)

    def test_no_list_or_too_long(self):
        many = [Triangle(*three) for three in halved(5, 6)]
        self.assertEqual(len(Mesh(many)), 60)
        longer = [*many, Triangle((-9, -9), (-8, -9), (-9, -8))]
        for thing in [None, True, 0, "", "ab", (), tuple(many), {}, set(), many[0], Mesh([]), longer, [None] * 61,
                      [many[0]] * 61]:
            self.assertIsNone(self.refused(InvalidMesh, Mesh, thing).number)

    def test_an_entry_is_no_triangle(self):
        good, other = Triangle(*TWO[0]), Triangle(*TWO[1])
        for thing in [None, True, 0, "abc", TWO[1], tuple(TWO[1]), [good], Point(1, 2), Half((1, 0), True), Triangle]:
            for at in range(3):
                passed = [good, other]
                passed.insert(at, thing)
                self.assertEqual(self.refused(InvalidMesh, Mesh, [*passed, None]).number, at)
        # Also ahead of two triangles with inner points in common.
        self.assertEqual(self.refused(InvalidMesh, Mesh, [good, good, other, None]).number, 3)

    def assert_overlap(self, threes, number, other):
        error = self.refused(Overlap, made, threes)
        self.assertEqual((error.number, error.other), (number, other))

    def test_overlap(self):
        self.assert_overlap([TWO[0], TWO[0]], 1, 0)
        self.assert_overlap([TWO[0], [(1, 1), (5, 1), (1, 5)]], 1, 0)
        self.assert_overlap([TWO[0], TWO[1], [(1, 1), (2, 1), (1, 2)]], 2, 0)
        self.assert_overlap([TWO[0], TWO[1], [(3, 3), (4, 3), (3, 4)]], 2, 1)
        self.assert_overlap([TWO[0], TWO[1], [(-9, -9), (90, -9), (-9, 90)]], 2, 0)
        self.assert_overlap([TWO[0], TWO[1], TWO[1], TWO[0]], 2, 1)
        self.assert_overlap([*halved(3, 2), [(1, 1), (5, 1), (1, 2)]], 12, 0)
        self.assert_overlap([[(9, 9), (8, 9), (9, 8)], TWO[0], TWO[1], [(1, 3), (4, 3), (4, 4)], TWO[0]], 3, 2)

    def test_the_first_triangle_that_overlaps_comes_first(self):
        # The third one meets the second, the last one meets the first.
        far = [(20, 20), (24, 20), (20, 24)]
        self.assert_overlap([TWO[0], far, [(21, 21), (29, 21), (21, 29)], TWO[0]], 2, 1)

    def test_edges_and_corners_in_common_are_no_overlap(self):
        for threes in THREES:
            self.assertEqual(len(made(threes)), len(threes))

    def test_lists_are_copied(self):
        passed = [Triangle(*three) for three in TWO]
        mesh = Mesh(passed)
        passed.clear()
        self.assertEqual(len(mesh), 2)
        self.assertIsNot(mesh.triangles(), mesh.triangles())
        mesh.triangles().clear()
        mesh.triangles()[0] = None
        self.assertEqual(mesh, made(TWO))

    def test_the_list_passed_is_not_changed(self):
        passed = [Triangle(*three) for three in TWO]
        mesh = Mesh(passed)
        mesh[0] = Triangle((9, 9), (10, 9), (9, 10))
        self.assertEqual(passed, [Triangle(*three) for three in TWO])

    def test_equality(self):
        for one, other in itertools.product(THREES, repeat=2):
            self.assertIs(made(one) == made(other), one == other)
        self.assert_equal_both_ways(made(TWO), made([three[1:] + three[:1] for three in TWO]))
        self.assert_unlike_both_ways(made(TWO), made(TWO[::-1]))
        self.assert_equals_no_foreign_value(made(TWO), TWO, made(TWO).triangles(), Triangle(*TWO[0]), Samples([]))
        self.assert_equals_no_foreign_value(made([]), Samples([]), Table.nothing())


class ItemTest(Case):
    def test_no_such_number(self):
        for threes in [[], TWO, AROUND]:
            mesh = made(threes)
            for number in [-1, len(threes), len(threes) + 1, GREAT, *NO_INTEGERS]:
                with self.subTest(number=number):
                    self.assertIs(self.refused(InvalidNumber, lambda: mesh[number]).number, number)
                    for thing in [Triangle((90, 90), (91, 90), (90, 91)), None, Triangle(*TWO[0])]:
                        found = self.refused(InvalidNumber, mesh.__setitem__, number, thing)
                        self.assertIs(found.number, number)
            self.assertEqual(mesh, made(threes))

    def test_set(self):
        mesh = made(TWO)
        other = Triangle((0, 0), (0, 4), (-4, 0))
        mesh[0] = other
        self.assertEqual(mesh.triangles(), [other, Triangle(*TWO[1])])
        self.assertIs(mesh[0], other)
        mesh[1] = Triangle(*TWO[0])
        self.assertEqual(mesh.triangles(), [other, Triangle(*TWO[0])])

    def test_in_its_own_place(self):
        mesh = made(TWO)
        mesh[0] = mesh[0]
        mesh[1] = Triangle(*TWO[1])
        self.assertEqual(mesh, made(TWO))
        mesh[1] = Triangle((4, 0), (3, 3), (0, 4))
        self.assertEqual(mesh, made([TWO[0], [(4, 0), (3, 3), (0, 4)]]))

    def test_no_triangle(self):
        mesh = made(AROUND)
        for thing in [None, True, 0, "abc", AROUND[0], tuple(AROUND[0]), Point(1, 2), mesh, Triangle]:
            for number in range(4):
                self.assertEqual(self.refused(InvalidMesh, mesh.__setitem__, number, thing).number, number)
        self.assertEqual(mesh, made(AROUND))

    def test_overlap(self):
        mesh = made(AROUND)
        for number, three, other in [(0, AROUND[1], 1), (0, [(3, 3), (5, 3), (4, 5)], 1), (1, AROUND[0], 0),
                                     (3, [(3, 3), (5, 3), (4, 5)], 0), (2, AROUND[3], 3),
                                     (2, [(-90, -90), (90, -90), (0, 90)], 0)]:
            error = self.refused(Overlap, mesh.__setitem__, number, Triangle(*three))
            self.assertEqual((error.number, error.other), (number, other))
            self.assertEqual(mesh, made(AROUND))


class InsideTest(Case):
    def assert_inside(self, threes, point, expected):
        mesh = made(threes)
        self.assert_truth(inside(mesh, point), expected)
        self.assert_truth(inside(mesh, Point(*point)), expected)

    def test_named_places(self):
        for point in [(1, 1), (3, 3), (2, 2), (1, 3), (3, 1)]:
            self.assert_inside(TWO, point, True)
        for point in [(0, 0), (4, 0), (0, 4), (4, 4), (2, 0), (0, 2), (4, 1), (5, 5), (-1, 0)]:
            self.assert_inside(TWO, point, False)

    def test_a_corner_all_around(self):
        self.assert_inside(AROUND, (4, 4), True)
        for at in range(4):
            self.assert_inside(AROUND[:at] + AROUND[at + 1:], (4, 4), False)
            self.assert_inside(AROUND[at:] + AROUND[:at], (4, 4), True)

    def test_a_corner_on_the_middle_of_an_edge(self):
        self.assert_inside(ON_AN_EDGE, (4, 4), True)
        for at in range(4):
            self.assert_inside(ON_AN_EDGE[:at] + ON_AN_EDGE[at + 1:], (4, 4), False)

    def test_triangles_that_touch_at_a_corner(self):
        self.assert_inside([AROUND[0], AROUND[2]], (4, 4), False)
        self.assert_inside(BESIDE, (2, 2), False)

    def test_every_point_near(self):
        for threes in THREES:
            mesh = made(threes)
            for point in square(-1, 9):
                self.assert_truth(inside(mesh, point), near_all_round(threes, point))

    def test_the_empty_mesh(self):
        for point in square(-1, 1):
            self.assert_inside([], point, False)

    def test_great_numbers(self):
        for threes in [TWO, AROUND, AROUND[:3], ON_AN_EDGE]:
            great = [[(x * GREAT - 5, y * GREAT + GREAT) for x, y in three] for three in threes]
            for x, y in square(0, 8):
                self.assert_inside(great, (x * GREAT - 5, y * GREAT + GREAT), inside(made(threes), (x, y)))

    def test_names_and_wrong_points(self):
        self.assert_truth(inside(point=(1, 1), mesh=made(TWO)), True)
        for thing in NO_POINTS:
            for threes in [TWO, []]:
                self.assertIs(self.refused(InvalidPoint, inside, made(threes), thing).thing, thing)


class OwnersTest(Case):
    def test_indexes_ascending(self):
        for threes in THREES:
            mesh = made(threes)
            for rule in [*HALVES[::3], *WRONG]:
                for point in square(-1, 8):
                    found = owners(rule, mesh, point)
                    self.assertIs(type(found), list)
                    expected = [at for at, three in enumerate(threes) if owns(rule, Triangle(*three), point)]
                    self.assertEqual(found, expected)

    def test_several(self):
        self.assertEqual(owners(~Table.nothing(), made(AROUND), (4, 4)), [0, 1, 2, 3])
        self.assertEqual(owners(Table.nothing(), made(AROUND), (4, 4)), [])
        self.assertEqual(owners(rule=Half((0, 1), True), mesh=made(TWO), point=Point(2, 2)), [0])

    def test_new_each_time(self):
        mesh = made(AROUND)
        self.assertIsNot(owners(~Table.nothing(), mesh, (4, 4)), owners(~Table.nothing(), mesh, (4, 4)))

    def test_wrong_points(self):
        for thing in NO_POINTS:
            for threes in [TWO, []]:
                self.assertIs(self.refused(InvalidPoint, owners, HALVES[0], made(threes), thing).thing, thing)


class JudgedTest(Case):
    def assert_judged(self, rule, mesh, grid, lost, doubled):
        found = judged(rule, mesh, grid)
        self.assertIs(type(found), tuple)
        self.assertEqual([type(samples) for samples in found], [Samples, Samples])
        self.assertEqual([pairs(samples.points()) for samples in found], [lost, doubled])

    def test_wrong_rules(self):
        for threes, grid in itertools.product(THREES, [Grid.unit(), Grid(2, (0, 0)), Grid(3, (1, 1))]):
            mesh = made(threes)
            within = [point for point in square(-1, 9) if point in grid and inside(mesh, point)]
            for rule in WRONG:
                lost = [point for point in within if len(owners(rule, mesh, point)) == 0]
                doubled = [point for point in within if len(owners(rule, mesh, point)) > 1]
                self.assert_judged(rule, mesh, grid, lost, doubled)

    def test_right_rules(self):
        right = [*HALVES, *[table for table in all_tables() if half_of(table) is not None]]
        for threes, rule in itertools.product(THREES, right):
            self.assert_judged(rule, made(threes), Grid.unit(), [], [])

    def test_thirty_digits(self):
        step = 10 ** 29
        for threes in [TWO, AROUND, ON_AN_EDGE]:
            great = made([[(x * step + 7, y * step - step) for x, y in three] for three in threes])
            for rule in [*WRONG, *HALVES[:4]]:
                small = [pairs(samples.points()) for samples in judged(rule, made(threes), Grid.unit())]
                lost, doubled = [[(x * step + 7, y * step - step) for x, y in told] for told in small]
                self.assert_judged(rule, great, Grid(step, (7, 0)), lost, doubled)

    def test_some_are_found(self):
        self.assert_judged(Table.nothing(), made(AROUND), Grid.unit(), [
            (4, 1), (4, 2), (4, 3), (1, 4), (2, 4), (3, 4), (4, 4), (5, 4), (6, 4), (7, 4), (4, 5), (4, 6), (4, 7)], [])
        found = judged(grid=Grid(4, (0, 0)), mesh=made(AROUND), rule=~Table.nothing())
        self.assertEqual([pairs(samples.points()) for samples in found], [[], [(4, 4)]])


if __name__ == "__main__":
    unittest.main()
