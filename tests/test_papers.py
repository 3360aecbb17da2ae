"""11.4: papers that tell owners, and their checker."""

import itertools
import unittest

from filledonce.errors import InvalidPaper, NotShown
from filledonce.grids import Grid, Samples
from filledonce.meshes import Mesh, inside, owners
from filledonce.papers import check, paper_of
from filledonce.points import Point
from filledonce.rules import Half, Table, all_tables
from filledonce.triangles import Triangle
from tests.common import GREAT, NO_INTEGERS, NO_POINTS, TRUTHS, Case, square

HALVES = [Half(way, ahead) for way in [(1, 0), (0, 1), (-1, 0), (2, 1), (-3, -2), (1, -4)] for ahead in TRUTHS]

FIELD = Mesh([Triangle((0, 0), (4, 0), (0, 4)), Triangle((4, 0), (4, 4), (0, 4))])

FAN = Mesh([Triangle((1, 1), a, b) for a, b in [((4, 1), (3, 4)), ((3, 4), (-2, 3)), ((-2, 3), (-1, -2)),
                                                ((-1, -2), (4, 1))]])

MESHES = [FIELD, FAN, Mesh([]), Mesh([Triangle((0, 0), (5, 1), (2, 6))])]

ALL = Samples(square(-3, 5))

HALF = Half((0, 1), True)


def plain(paper):
    return [(point.pair(), number) for point, number in paper]


def inner_points(mesh):
    return [point for point in square(-3, 5) if inside(mesh, point)]


class PaperOfTest(Case):
    def test_just_the_points_inside_in_their_order(self):
        for mesh, half in itertools.product(MESHES, HALVES):
            paper = paper_of(half, mesh, ALL)
            self.assertIs(type(paper), list)
            for entry in paper:
                self.assertIs(type(entry), tuple)
                self.assertIs(type(entry[0]), Point)
            expected = inner_points(mesh)
            self.assertEqual(plain(paper), [(point, owners(half, mesh, point)[0]) for point in expected])
            self.assertEqual(check(half, mesh, ALL, paper), len(expected))

    def test_right_tables(self):
        for table in all_tables():
            lost = [point for point in inner_points(FAN) if len(owners(table, FAN, point)) != 1]
            if lost:
                self.assertEqual(self.refused(NotShown, paper_of, table, FAN, ALL).point.pair(), lost[0])
            else:
                self.assertEqual(check(table, FAN, ALL, paper_of(table, FAN, ALL)), len(inner_points(FAN)))

    def test_the_first_point_without_one_owner(self):
        for rule in [Table.nothing(), ~Table.nothing()]:
            error = self.refused(NotShown, paper_of, rule, FIELD, Samples([(1, 3), (2, 2), (3, 1), (1, 1), (0, 0)]))
            self.assertIs(type(error.point), Point)
            self.assertEqual(error.point.pair(), (3, 1))
        # Points that have one owner, or are not inside, are no fault.
        self.assertEqual(plain(paper_of(Table.nothing(), FIELD, Samples([(1, 1), (0, 0), (9, 9), (4, 2)]))),
                         [((1, 1), 0)])

    def test_no_points(self):
        self.assertEqual(paper_of(HALF, FIELD, Samples([])), [])
        self.assertEqual(paper_of(HALF, Mesh([]), ALL), [])
        self.assertEqual(paper_of(HALF, FIELD, Samples([(0, 0), (7, 7)])), [])

    def test_new_each_time_and_names(self):
        paper = paper_of(samples=ALL, mesh=FIELD, rule=HALF)
        paper.clear()
        self.assertEqual(len(paper_of(HALF, FIELD, ALL)), 9)
        self.assertEqual(len(ALL), 81)

    def test_thirty_digits(self):
        mesh = Mesh([Triangle((0, 0), (2 * GREAT, 0), (0, 2 * GREAT)),
                     Triangle((2 * GREAT, 0), (2 * GREAT, 2 * GREAT), (0, 2 * GREAT))])
        samples = Samples([(GREAT, GREAT), (GREAT + 1, GREAT), (0, 0)])
        paper = paper_of(HALF, mesh, samples)
        self.assertEqual(plain(paper), [((GREAT, GREAT), 0), ((GREAT + 1, GREAT), 1)])
        self.assertEqual(check(HALF, mesh, samples, paper), 2)


class CheckTest(Case):
    def setUp(self):
        self.samples = Samples([(1, 1), (2, 2), (3, 3), (0, 0), (3, 1)])
        # Of a half with the way (0, 1) the first triangle owns the common edge.
        self.paper = [((3, 1), 0), ((1, 1), 0), ((2, 2), 0), ((3, 3), 1)]

    def check(self, paper, rule=HALF):
        return check(rule, FIELD, self.samples, paper)

    def test_a_right_paper(self):
        self.assertEqual(self.check(self.paper), 4)
        self.assertEqual(check(paper=self.paper, samples=self.samples, mesh=FIELD, rule=HALF), 4)
        self.assertEqual(self.check(paper_of(HALF, FIELD, self.samples)), 4)

    def test_in_any_order(self):
        for paper in itertools.permutations(self.paper):
            self.assertEqual(self.check(list(paper)), 4)

    def test_points_as_pairs_or_as_points(self):
        self.assertEqual(self.check([(Point(*pair), number) for pair, number in self.paper]), 4)

    def test_more_points(self):
        # Points that are outside, are none of the samples, or are wrong there and twice.
        more = [((0, 0), 1), ((9, 9), 0), ((0, 0), 0), ((1, 3), 1), ((1, 3), 1), ((1, 2), 1), ((-GREAT, GREAT), 0)]
        self.assertEqual(self.check(self.paper + more), 4)
        self.assertEqual(self.check(more + self.paper), 4)

    def test_an_entry_left_out(self):
        for at in range(4):
            error = self.refused(NotShown, self.check, self.paper[:at] + self.paper[at + 1:])
            self.assertIs(type(error.point), Point)
            self.assertEqual(error.point.pair(), self.paper[at][0])

    def test_an_entry_twice(self):
        for at in range(4):
            point, number = self.paper[at]
            for entry in [(point, number), (Point(*point), number), (point, 1 - number)]:
                self.assertEqual(self.refused(NotShown, self.check, [*self.paper, entry]).point.pair(), point)
                self.assertEqual(self.refused(NotShown, self.check, [entry, *self.paper]).point.pair(), point)

    def test_another_triangle(self):
        for at in range(4):
            point, number = self.paper[at]
            paper = list(self.paper)
            paper[at] = (point, 1 - number)
            self.assertEqual(self.refused(NotShown, self.check, paper).point.pair(), point)

    def test_owned_in_another_one_too(self):
        for number in [0, 1]:
            paper = [((1, 1), 0), ((3, 1), number), ((2, 2), number), ((3, 3), 1)]
            for rule in [~Table.nothing(), Table.nothing()]:
                self.assertEqual(self.refused(NotShown, self.check, paper, rule).point.pair(), (3, 1))

    def test_told_with_all_owners_or_none(self):
        # Each point has two owners that are both told, or none and is not told.
        samples = Samples([(2, 2), (1, 1)])
        for paper in [[((1, 1), 0), ((2, 2), 0), ((2, 2), 1)], [((1, 1), 0), ((2, 2), 1), ((2, 2), 0)]]:
            error = self.refused(NotShown, check, ~Table.nothing(), FIELD, samples, paper)
            self.assertEqual(error.point.pair(), (2, 2))
        self.assertEqual(self.refused(NotShown, check, Table.nothing(), FIELD, samples, [((1, 1), 0)]).point.pair(),
                         (2, 2))

    def test_the_first_point_of_several(self):
        order = [(1, 1), (3, 1), (2, 2), (3, 3)]
        for many in range(1, 5):
            for wrong in itertools.combinations(order, many):
                paper = [entry for entry in self.paper if entry[0] not in wrong]
                self.assertEqual(self.refused(NotShown, self.check, paper).point.pair(), wrong[0])

    def test_no_points_inside(self):
        for mesh, samples in [(FIELD, Samples([])), (Mesh([]), ALL), (FIELD, Samples([(0, 0), (4, 4), (9, 9)]))]:
            found = check(HALF, mesh, samples, [])
            self.assertIs(type(found), int)
            self.assertEqual(found, 0)

    def test_all_rules_and_meshes(self):
        for mesh, half in itertools.product(MESHES, HALVES):
            paper = paper_of(half, mesh, ALL)
            for other in HALVES:
                unlike = [point for point in inner_points(mesh)
                          if owners(half, mesh, point) != owners(other, mesh, point)]
                if unlike:
                    self.assertEqual(self.refused(NotShown, check, other, mesh, ALL, paper).point.pair(), unlike[0])
                else:
                    self.assertEqual(check(other, mesh, ALL, paper), len(paper))

    def test_no_list(self):
        for thing in [None, True, 0, "", "ab", (), tuple(self.paper), {}, set(), Point(1, 2), ALL, FIELD]:
            self.assertIsNone(self.refused(InvalidPaper, self.check, thing).number)

    def test_no_entry(self):
        wrong = [None, True, 0, "ab", (), ((1, 1),), ((1, 1), 0, 0), [(1, 1), 0], (1, 1), Point(1, 1), (0, (1, 1)),
                 {(1, 1): 0}]
        wrong += [(thing, 0) for thing in NO_POINTS]
        wrong += [((1, 1), thing) for thing in [*NO_INTEGERS, -1, 2, GREAT]]
        for thing in wrong:
            for at in range(5):
                paper = self.paper[:at] + [thing] + self.paper[at:] + [None]
                self.assertEqual(self.refused(InvalidPaper, self.check, paper).number, at)

    def test_no_entry_comes_ahead_of_what_is_not_shown(self):
        self.assertEqual(self.refused(InvalidPaper, self.check, [((1, 1), 1), ((9, 9), 2)]).number, 1)
        self.assertEqual(self.refused(InvalidPaper, check, HALF, Mesh([]), ALL, [((1, 1), 0)]).number, 0)

    def test_nothing_changes(self):
        kept = list(self.paper)
        self.check(self.paper)
        self.refused(NotShown, self.check, self.paper, Table.nothing())
        self.assertEqual(self.paper, kept)
        self.assertEqual(len(self.samples), 5)
        self.assertEqual(HALF, Half((0, 1), True))
        self.assertEqual(FIELD, Mesh(FIELD.triangles()))

    def test_a_mesh_of_a_grid(self):
        mesh = Mesh([triangle for x, y in square(0, 4) for triangle in [
            Triangle((3 * x, 3 * y), (3 * x + 3, 3 * y), (3 * x, 3 * y + 3)),
            Triangle((3 * x + 3, 3 * y), (3 * x + 3, 3 * y + 3), (3 * x, 3 * y + 3))]])
        samples = Samples(list(Grid.unit().between((-1, -1), (16, 16))))
        for half in HALVES[::4]:
            paper = paper_of(half, mesh, samples)
            self.assertEqual(check(half, mesh, samples, paper), 14 * 14)


if __name__ == "__main__":
    unittest.main()
