"""6.1 and 6.2: right rules, and least meshes for the others."""

import unittest

from filledonce.errors import InvalidPoint
from filledonce.grids import Grid
from filledonce.meshes import Mesh, inside, judged, owners
from filledonce.points import Point
from filledonce.rules import Half, Table, all_tables, half_of
from filledonce.triangles import Triangle
from filledonce.witnesses import faulty, is_right, shows
from tests.common import GREAT, NO_POINTS, TRUTHS, Case, square

FOUR = [[(kind - first) % 8 < 4 for kind in range(8)] for first in range(8)]

WAYS = [(1, 0), (0, 1), (-1, 0), (0, -1), (1, 1), (-3, 5), (-2, -7), (GREAT, -1)]


class RightTest(Case):
    def test_all_tables(self):
        right = []
        for table in all_tables():
            self.assert_truth(is_right(table), table.kinds() in FOUR)
            self.assert_truth(is_right(rule=table), half_of(table) is not None)
            if is_right(table):
                right.append(table)
        self.assertEqual(len(right), 8)

    def test_halves(self):
        for way in WAYS:
            for ahead in TRUTHS:
                self.assert_truth(is_right(Half(way, ahead)), True)

    def test_after_a_change(self):
        table = Table(FOUR[0])
        table[0] = False
        self.assert_truth(is_right(table), False)
        table[4] = True
        self.assert_truth(is_right(table), True)


class FaultyTest(Case):
    def test_right_rules(self):
        for kinds in FOUR:
            self.assertIsNone(faulty(Table(kinds)))
        for way in WAYS:
            for ahead in TRUTHS:
                self.assertIsNone(faulty(Half(way, ahead)))

    def test_all_other_tables(self):
        sizes = {2: 0, 3: 0}
        for table in all_tables():
            if table.kinds() in FOUR:
                continue
            found = faulty(table)
            self.assertIs(type(found), tuple)
            mesh, point = found
            self.assertIs(type(mesh), Mesh)
            self.assertIs(type(point), Point)
            with_pair = any(table[kind] is table[kind + 4] for kind in range(4))
            self.assertEqual(len(mesh), 2 if with_pair else 3)
            self.assert_truth(inside(mesh, point), True)
            self.assertNotEqual(len(owners(table, mesh, point)), 1)
            self.assert_truth(shows(table, mesh, point), True)
            sizes[len(mesh)] += 1
        self.assertEqual(sizes, {2: 240, 3: 8})

    def test_judged_tells_it_too(self):
        for table in all_tables():
            if not is_right(table):
                mesh, point = faulty(rule=table)
                lost, doubled = judged(table, mesh, Grid.unit())
                self.assertIn(point, lost | doubled)

    def test_the_rule_stays(self):
        table = Table([True, False] * 4)
        mesh, point = faulty(table)
        mesh[0] = Triangle((50, 50), (51, 50), (50, 51))
        self.assertEqual(table.kinds(), [True, False] * 4)
        self.assert_truth(shows(table, *faulty(table)), True)


class ShowsTest(Case):
    def test_points_inside_and_not(self):
        mesh = Mesh([Triangle((0, 0), (4, 0), (0, 4)), Triangle((4, 0), (4, 4), (0, 4))])
        for table in [Table.nothing(), ~Table.nothing()]:
            told = [point for point in square(-1, 5) if shows(table, mesh, point)]
            self.assertEqual(told, [(3, 1), (2, 2), (1, 3)])
        for rule in [Half((0, 1), True), Half((2, 7), False), Table(FOUR[3])]:
            for point in square(-1, 5):
                self.assert_truth(shows(rule, mesh, point), False)
                self.assert_truth(shows(rule, mesh, Point(*point)), False)

    def test_outside_with_no_owner_or_several(self):
        apart = Mesh([Triangle((0, 0), (4, 0), (0, 4)), Triangle((0, 0), (-4, 0), (0, -4))])
        self.assertEqual(owners(~Table.nothing(), apart, (0, 0)), [0, 1])
        self.assert_truth(shows(~Table.nothing(), apart, (0, 0)), False)
        self.assert_truth(shows(Table.nothing(), apart, (0, 0)), False)
        self.assert_truth(shows(Table.nothing(), Mesh([]), (0, 0)), False)

    def test_names_and_wrong_points(self):
        mesh, point = faulty(Table.nothing())
        self.assert_truth(shows(point=point.pair(), mesh=mesh, rule=Table.nothing()), True)
        for thing in NO_POINTS:
            self.assertIs(self.refused(InvalidPoint, shows, Table.nothing(), mesh, thing).thing, thing)


if __name__ == "__main__":
    unittest.main()
