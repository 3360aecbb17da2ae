"""The examples of the document, and those of README.md."""

import doctest
import pathlib
import unittest

from filledonce.bits import least_bits, shows_bits, wrapped
from filledonce.consoles import Console
from filledonce.counting import amount, floor_sum, twin_of
from filledonce.directions import kind_of, lowest, sorted_around
from filledonce.errors import Flat, InvalidHalf, NoDirection, Overlap
from filledonce.grids import Grid, Samples, owned
from filledonce.histories import History, tried
from filledonce.meshes import Mesh, inside, judged, owners
from filledonce.moves import Moves
from filledonce.nets import Net, counted_owners, rim_turns, signed, snapped
from filledonce.papers import check, paper_of
from filledonce.points import Point
from filledonce.points import quarter, side
from filledonce.rings import Ring, filled
from filledonce.rules import Half, Table, half_of, table_of
from filledonce.shifts import owns_shifted, scale_for, shift_of
from filledonce.spans import Spans
from filledonce.triangles import Triangle
from filledonce.values import value_at, weights
from filledonce.witnesses import faulty, is_right, shows


class StageOneTest(unittest.TestCase):
    def test_points(self):
        p = Point(3, 4)
        self.assertEqual(
            [(p + (1, 1)).pair(), ((5, 5) - p).pair(), (2 * p).pair(), p.cross((1, 2)), quarter(p).pair(),
             side((0, 0), (4, 0), p)],
            [(4, 5), (2, 1), (6, 8), 2, (-4, 3), 16])

    def test_directions(self):
        self.assertEqual(
            [kind_of((0, -7)), lowest((6, -9)).pair(),
             [way.pair() for way in sorted_around([(0, -1), (1, 2), (5, 0), (2, 1)])]],
            [6, (2, -3), [(5, 0), (2, 1), (1, 2), (0, -1)]])

    def test_no_direction(self):
        with self.assertRaises(NoDirection) as caught:
            kind_of((0, 0))
        self.assertEqual(caught.exception.thing, (0, 0))


class StageTwoTest(unittest.TestCase):
    def test_tables_and_halves(self):
        table = Table([True, True, True, True, False, False, False, False])
        half = half_of(table)
        self.assertEqual(
            [table((5, 1)), table((-2, 0)), len(table), half.way.pair(), half.ahead, table_of(Half((2, 2), True)),
             (~table).kinds()],
            [True, False, 4, (1, 0), True, None, [False, False, False, False, True, True, True, True]])

    def test_no_half(self):
        with self.assertRaises(InvalidHalf) as caught:
            Half((0, 0), True)
        self.assertEqual(caught.exception.part, "way")

    def test_order(self):
        self.assertEqual(
            [Table.nothing() <= Half((1, 2), True), Half((1, 0), True) <= ~Table.nothing(),
             Half((3, 1), True) <= Half((6, 2), True), Half((3, 1), True) <= Half((3, 1), False)],
            [True, True, True, False])


class StageThreeTest(unittest.TestCase):
    def test_triangle(self):
        triangle = Triangle((0, 0), (0, 4), (4, 0))
        self.assertEqual(
            [[corner.pair() for corner in triangle.corners()], triangle.area2, (2, 2) in triangle, (3, 2) in triangle,
             triangle == Triangle((4, 0), (0, 4), (0, 0))],
            [[(0, 0), (4, 0), (0, 4)], 16, True, False, True])

    def test_flat(self):
        self.assertRaises(Flat, Triangle, (0, 0), (1, 1), (2, 2))

    def test_owned(self):
        triangle = Triangle((0, 0), (2, 0), (0, 2))
        self.assertEqual(
            [[point.pair() for point in owned(rule, triangle, Grid.unit()).points()]
             for rule in [Half((1, 0), True), Half((1, 0), False)]],
            [[(1, 0), (2, 0), (1, 1)], [(1, 1)]])

    def test_grids_and_samples(self):
        grid = Grid(3, (1, -1))
        a, b = Samples([(1, 2), (0, 0), (1, 2)]), Samples([(0, 0), (5, 5)])
        self.assertEqual(
            [[point.pair() for point in grid.between((0, 0), (5, 5))], (7, 8) in grid,
             [point.pair() for point in (a | b).points()], len(a & b), len(a - b)],
            [[(1, 2), (4, 2), (1, 5), (4, 5)], True, [(0, 0), (1, 2), (5, 5)], 1, 1])


class StageFourTest(unittest.TestCase):
    def test_shifts(self):
        half, triangle = Half((1, 0), True), Triangle((0, 0), (2, 0), (0, 2))
        scale = scale_for(half, triangle, (1, 0))
        self.assertEqual(
            [[point.pair() for point in shift_of(half)], owns_shifted(half, triangle, (1, 0), scale),
             owns_shifted(half, triangle, (1, 1), scale)],
            [[(-1, 0), (0, 1)], True, True])


class StageFiveTest(unittest.TestCase):
    def test_mesh(self):
        mesh = Mesh([Triangle((0, 0), (4, 0), (0, 4)), Triangle((4, 0), (4, 4), (0, 4))])
        lost, doubled = judged(Table.nothing(), mesh, Grid.unit())
        self.assertEqual(
            [inside(mesh, (2, 2)), inside(mesh, (0, 2)), owners(Half((0, 1), True), mesh, (2, 2)),
             [point.pair() for point in lost.points()], len(doubled)],
            [True, False, [0], [(3, 1), (2, 2), (1, 3)], 0])

    def test_overlap(self):
        with self.assertRaises(Overlap) as caught:
            Mesh([Triangle((0, 0), (4, 0), (0, 4)), Triangle((1, 1), (5, 1), (1, 5))])
        self.assertEqual((caught.exception.number, caught.exception.other), (1, 0))


class StageSixTest(unittest.TestCase):
    def test_witnesses(self):
        table = Table([True, False, True, False, True, False, True, False])
        mesh, point = faulty(table)
        self.assertEqual(
            [is_right(table), len(mesh), shows(table, mesh, point), is_right(Half((5, 3), False)),
             faulty(Half((5, 3), False))],
            [False, 2, True, True, None])


class StageSevenTest(unittest.TestCase):
    def test_net(self):
        net = Net([(0, 0), (4, 0), (0, 4), (1, 1)], [(0, 1, 3), (1, 2, 3), (2, 0, 3)])
        half = Half((1, 0), True)
        net[3] = (9, 9)
        self.assertEqual(
            [net.rim(), counted_owners(half, net, (5, 5)), signed(half, net, (1, 1)), rim_turns(half, net, (1, 1))],
            [[(0, 1), (1, 2), (2, 0)], (1, 1), 1, 1])

    def test_snapped(self):
        self.assertEqual([point.pair() for point in snapped(Net([(5, -5), (6, 2)], []), 4).points()], [(4, -4), (8, 4)])


class StageEightTest(unittest.TestCase):
    def test_ring(self):
        ring, half = Ring([(0, 0), (2, 0), (2, 2), (0, 2)]), Half((1, 0), True)
        self.assertEqual(
            [ring.area2, ring.turns(half, (1, 1)), ring.turned().turns(half, (1, 1)),
             [point.pair() for point in filled(half, ring, Grid.unit()).points()]],
            [8, 1, -1, [(1, 0), (2, 0), (1, 1), (2, 1)]])


class StageNineTest(unittest.TestCase):
    def test_spans(self):
        triangle = Triangle((0, 0), (4, 0), (0, 4))
        right, wrong = Spans(True, False, True, False), Spans(True, True, True, False)
        self.assertEqual(
            [right.takes(triangle, (0, 0)), right.takes(triangle, (2, 2)), wrong.takes(triangle, (2, 2)),
             right.is_right, wrong.is_right, right.half().way.pair(), wrong.half()],
            [True, False, True, True, False, (-1, 0), None])


class StageTenTest(unittest.TestCase):
    def test_counting(self):
        triangle, half = Triangle((0, 0), (10 ** 15, 0), (0, 10 ** 15)), Half((1, 0), True)
        self.assertEqual(
            [floor_sum(4, 3, 1, 2), amount(half, Triangle((0, 0), (2, 0), (0, 2)), Grid.unit()),
             amount(half, triangle, Grid.unit()) + amount(half, twin_of(triangle), Grid.unit()) == 10 ** 30],
            [10, 3, True])


class StageElevenTest(unittest.TestCase):
    def test_bits(self):
        self.assertEqual(
            [wrapped(9, 4), wrapped(-9, 4), least_bits(1), least_bits(7), wrapped(shows_bits(7).area2, 6) < 0],
            [-7, 7, 2, 7, True])

    def test_values(self):
        triangle = Triangle((0, 0), (4, 0), (0, 4))
        self.assertEqual(
            [weights(triangle, (1, 1)), value_at(triangle, [0, 4, 8], (1, 1)), value_at(triangle, [1, 2, 4], (1, 2))],
            [(8, 4, 4), (3, 1), (11, 4)])

    def test_papers(self):
        mesh = Mesh([Triangle((0, 0), (4, 0), (0, 4)), Triangle((4, 0), (4, 4), (0, 4))])
        samples, half = Samples([(1, 1), (2, 2), (0, 0)]), Half((0, 1), True)
        paper = paper_of(half, mesh, samples)
        self.assertEqual(
            [[(point.pair(), number) for point, number in paper], check(half, mesh, samples, paper)],
            [[((1, 1), 0), ((2, 2), 0)], 2])


class StageTwelveTest(unittest.TestCase):
    def test_moves(self):
        net = Net([(0, 0), (4, 0), (0, 4), (5, 5)], [(0, 1, 2), (1, 3, 2), (0, 1, 2)])
        moves = Moves(net, [(3, (6, 6)), (0, (9, 9))])
        half, samples = Half((1, 0), True), Samples([(1, 1)])
        self.assertEqual(
            [moves.least(half, samples), [point.pair() for point in moves.faults(half, samples, ())],
             moves.behind((0,))[3].pair()],
            [[(1,)], [(1, 1)], (6, 6)])


class StageThirteenTest(unittest.TestCase):
    def test_history(self):
        history = History(Net([(0, 0), (4, 0), (0, 4)], [(0, 1, 2)]))
        before = history.move(0, (1, 1)).pair()
        found = tried(history, [('undo', 1), ('keep', 'm')])
        self.assertEqual([before, found, len(history), history.kept(), history.net_now()[0].pair()],
                         [(0, 0), [0, None], 1, [], (1, 1)])

    def test_console(self):
        console = Console(Net([(0, 0), (4, 0), (0, 4)], [(0, 1, 2)]), Half((1, 0), True))
        self.assertEqual(
            [console.execute(row) for row in ['rim', 'count 1 1', 'move 1 0 -4', 'count 1 1', 'owners -1 -1', 'point 1',
                                              'undo 1']],
            ['0>1 1>2 2>0', '1', '4 0', '0', '0 0', '0 -4', '0'])


class ReadmeTest(unittest.TestCase):
    def test_examples(self):
        path = pathlib.Path(__file__).resolve().parent.parent / "README.md"
        # A fence behind an example would be read as a part of what it shows.
        text = path.read_text().replace("```", "")
        examples = doctest.DocTestParser().get_doctest(text, {}, "README.md", "README.md", 0)
        written = []
        found = doctest.DocTestRunner(verbose=False).run(examples, out=written.append)
        self.assertGreater(found.attempted, 0)
        self.assertEqual(found.failed, 0, "".join(written))


if __name__ == "__main__":
    unittest.main()
