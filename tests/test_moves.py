"""12.1 to 12.3: sets of moves, the nets behind them, and which of them are clean."""

import inspect
import itertools
import random
import unittest

from filledonce.errors import InvalidMenu, UnknownSet
from filledonce.grids import Samples
from filledonce.moves import Moves, is_clean
from filledonce.nets import Net, counted_owners
from filledonce.points import Point
from filledonce.rules import Half
from tests.common import GREAT, NO_INTEGERS, NO_POINTS, TRUTHS, Case, square

HALVES = [Half(way, ahead) for way in [(1, 0), (0, 1), (-1, 0), (2, 1), (-3, -2)] for ahead in TRUTHS]

POINTS = [(0, 0), (4, 0), (0, 4), (5, 5)]

TRIPLES = [(0, 1, 2), (1, 3, 2), (0, 1, 2)]

MENU = [(3, (6, 6)), (0, (9, 9)), (3, (1, 1)), (1, (0, -4)), (0, (0, 0))]

HALF = Half((1, 0), True)


def new_net():
    return Net(POINTS, TRIPLES)


def all_sets(many):
    """By size and then ascending."""
    return [picks for size in range(many + 1) for picks in itertools.combinations(range(many), size)]


def net_by_hand(points, triples, menu, picks):
    moved = list(points)
    for pick in picks:
        moved[menu[pick][0]] = menu[pick][1]
    return Net(moved, triples)


def faults_by_hand(half, net, samples):
    found = []
    for point in samples.points():
        against, along = counted_owners(half, net, point)
        if against > 1 or along > 0:
            found.append(point.pair())
    return found


def mixed_cases():
    """Nets with menus, the same in every run."""
    source = random.Random(97)
    for number in range(24):
        points = [(source.randint(0, 5), source.randint(0, 5)) for at in range(source.randint(3, 6))]
        triples = [tuple(source.sample(range(len(points)), 3)) for at in range(source.randint(1, 3))]
        menu = [(source.randrange(len(points)), (source.randint(0, 5), source.randint(0, 5)))
                for at in range(source.randint(0, 5))]
        samples = Samples([(source.randint(0, 5), source.randint(0, 5)) for at in range(source.randint(0, 7))])
        yield points, triples, menu, samples, HALVES[number % len(HALVES)]


class MakingTest(Case):
    def test_len(self):
        for many in range(9):
            self.assertEqual(len(Moves(new_net(), [(0, (1, 1))] * many)), many)
        self.assertEqual(len(Moves(menu=MENU, net=new_net())), 5)

    def test_no_list_or_too_long(self):
        for thing in [None, True, 0, "", "ab", (), tuple(MENU), {}, set(), Point(1, 2), new_net(), [(0, (1, 1))] * 9,
                      [None] * 9]:
            self.assertIsNone(self.refused(InvalidMenu, Moves, new_net(), thing).number)

    def test_no_move(self):
        wrong = [None, True, 0, "ab", (), (0,), (0, (1, 1), 2), [0, (1, 1)], (1, 1), Point(1, 1), ((1, 1), 0),
                 {0: (1, 1)}]
        wrong += [(thing, (1, 1)) for thing in [*NO_INTEGERS, -1, 4, GREAT]]
        wrong += [(0, thing) for thing in NO_POINTS]
        for thing in wrong:
            for at in range(4):
                menu = MENU[:at] + [thing] + MENU[at:3] + [None]
                self.assertEqual(self.refused(InvalidMenu, Moves, new_net(), menu).number, at)

    def test_a_net_without_points(self):
        moves = Moves(Net([], []), [])
        self.assertEqual(len(moves), 0)
        self.assertEqual(moves.behind(()), Net([], []))
        self.assertEqual(self.refused(InvalidMenu, Moves, Net([], []), [(0, (1, 1))]).number, 0)

    def test_it_cannot_be_iterated_over(self):
        moves = Moves(new_net(), MENU)
        self.assertRaises(TypeError, iter, moves)
        with self.assertRaises(TypeError):
            list(moves)
        with self.assertRaises(TypeError):
            moves[0]

    def test_what_is_passed_is_copied(self):
        net, menu = new_net(), list(MENU)
        moves = Moves(net, menu)
        self.assertEqual((net, menu), (new_net(), MENU))
        menu.clear()
        net[3] = (7, 7)
        net[2] = (8, 8)
        self.assertEqual(len(moves), 5)
        self.assertEqual(moves.behind(()), new_net())
        self.assertEqual(moves.behind((0,)), Net([(0, 0), (4, 0), (0, 4), (6, 6)], TRIPLES))


class BehindTest(Case):
    def test_all_sets(self):
        moves = Moves(new_net(), MENU)
        for picks in all_sets(5):
            found = moves.behind(picks)
            self.assertIs(type(found), Net)
            self.assertEqual(found, net_by_hand(POINTS, TRIPLES, MENU, picks))
        self.assertEqual(moves.behind(picks=()), new_net())

    def test_the_last_move_of_a_point_counts(self):
        moves = Moves(new_net(), MENU)
        self.assertEqual(moves.behind((0, 2))[3].pair(), (1, 1))
        self.assertEqual(moves.behind((0,))[3].pair(), (6, 6))
        self.assertEqual(moves.behind((1, 4))[0].pair(), (0, 0))
        self.assertEqual(moves.behind((1, 2))[0].pair(), (9, 9))

    def test_eight_moves(self):
        menu = [(at % 4, (at, 10 + at)) for at in range(8)]
        moves = Moves(new_net(), menu)
        self.assert_points(moves.behind(tuple(range(8))).points(), [(4, 14), (5, 15), (6, 16), (7, 17)])

    def test_points_as_pairs_or_as_points(self):
        moves = Moves(new_net(), [(0, Point(GREAT, -GREAT)), (1, (-1, GREAT))])
        self.assert_points(moves.behind((0, 1)).points(), [(GREAT, -GREAT), (-1, GREAT), (0, 4), (5, 5)])

    def test_nets_are_new(self):
        moves = Moves(new_net(), MENU)
        for picks in [(), (0,), (1, 2)]:
            found = moves.behind(picks)
            found[0] = (50, 50)
            found[3] = (51, 51)
            self.assertEqual(moves.behind(picks), net_by_hand(POINTS, TRIPLES, MENU, picks))
        self.assertEqual(moves.behind(()), new_net())

    def test_no_set(self):
        moves = Moves(new_net(), MENU)
        wrong = [None, True, 0, 1, "", "0", b"", [], [0], [0, 1], {}, {0: 1}, set(), {0}, range(1), Point(0, 1), (1, 0),
                 (0, 0), (0, 2, 1), (0, 1, 1), (5,), (0, 5), (-1,), (-1, 0), (True,), (0, True), (False,), (False, 1),
                 (None,), (0, None), ("0",), (1.0,), ((0,),), ([0],), (GREAT,), (0, 1, 2, 3, 4, 5)]
        samples = Samples([(1, 1)])
        for thing in wrong:
            self.assertIs(self.refused(UnknownSet, moves.behind, thing).picks, thing)
            self.assertIs(self.refused(UnknownSet, moves.faults, HALF, samples, thing).picks, thing)
        for thing in [(0,), (1,)]:
            self.assertIs(self.refused(UnknownSet, Moves(new_net(), []).behind, thing).picks, thing)


class CleanTest(Case):
    def test_one_two_and_none(self):
        one, two = Net(POINTS[:3], [(0, 1, 2)]), Net(POINTS[:3], [(0, 1, 2), (1, 2, 0)])
        turned, both = Net(POINTS[:3], [(0, 2, 1)]), Net(POINTS[:3], [(0, 1, 2), (0, 2, 1)])
        for half in HALVES:
            near, far = Samples([(1, 1)]), Samples([(9, 9), (-1, -1)])
            self.assertEqual([is_clean(half, net, near) for net in [one, two, turned, both]],
                             [True, False, False, False])
            self.assertEqual([is_clean(half, net, far) for net in [one, two, turned, both]], [True] * 4)
            self.assertEqual([is_clean(half, net, near | far) for net in [one, two, turned, both]],
                             [True, False, False, False])
            self.assertEqual([is_clean(half, net, Samples([])) for net in [one, two, turned, both]], [True] * 4)

    def test_flat_triples_count_nothing(self):
        net = Net([(0, 0), (2, 2), (4, 4)], [(0, 1, 2), (2, 1, 0)])
        self.assert_truth(is_clean(HALF, net, Samples(square(0, 5))), True)

    def test_samples_on_edges(self):
        # Two that lie edge to edge are clean by each half; laid over one another they are not.
        net = Net([(0, 0), (4, 0), (0, 4), (4, 4)], [(0, 1, 2), (1, 3, 2)])
        for half in HALVES:
            self.assert_truth(is_clean(half, net, Samples(square(-1, 5))), True)

    def test_in_another_manner(self):
        for points, triples, menu, samples, half in mixed_cases():
            net = Net(points, triples)
            expected = faults_by_hand(half, net, samples) == []
            self.assert_truth(is_clean(half, net, samples), expected)
            self.assert_truth(is_clean(samples=samples, net=net, half=half), expected)


class GoodTest(Case):
    def test_in_another_manner(self):
        seen = set()
        for points, triples, menu, samples, half in mixed_cases():
            moves = Moves(Net(points, triples), menu)
            good = [picks for picks in all_sets(len(menu))
                    if faults_by_hand(half, net_by_hand(points, triples, menu, picks), samples) == []]
            least = [picks for picks in good if not any(set(other) < set(picks) for other in good)]
            self.assertEqual(list(moves.good(half, samples)), good)
            self.assertEqual(list(moves.good(samples=samples, half=half)), good)
            self.assertEqual(moves.least(half, samples), least)
            self.assertEqual(moves.least(samples=samples, half=half), least)
            seen.add((len(good) > 0, len(least) > 1, () in good))
        self.assertGreater(len(seen), 2)

    def test_a_generator(self):
        moves = Moves(new_net(), MENU)
        found = moves.good(HALF, Samples([(1, 1)]))
        self.assertTrue(inspect.isgenerator(found))
        self.assertIs(type(next(found)), tuple)

    def test_by_size_and_then_ascending(self):
        moves = Moves(new_net(), MENU)
        self.assertEqual(list(moves.good(HALF, Samples([]))), all_sets(5))
        self.assertEqual(len(list(Moves(new_net(), [(0, (1, 1))] * 8).good(HALF, Samples([])))), 256)

    def test_with_no_fault_only_the_empty_set_is_least(self):
        self.assertEqual(Moves(new_net(), MENU).least(HALF, Samples([])), [()])
        self.assertEqual(Moves(new_net(), MENU).least(HALF, Samples([(50, 50)])), [()])
        self.assertEqual(Moves(new_net(), []).least(HALF, Samples([(50, 50)])), [()])

    def test_with_no_good_set(self):
        moves = Moves(new_net(), [(3, (6, 6))])
        self.assertEqual(list(moves.good(HALF, Samples([(1, 1)]))), [])
        self.assertEqual(moves.least(HALF, Samples([(1, 1)])), [])
        self.assertEqual(Moves(new_net(), []).least(HALF, Samples([(1, 1)])), [])

    def test_least_sets_of_unlike_sizes(self):
        # Two triangles lie over two others; a pair of moves, or one move, takes one of each away.
        points = [(0, 0), (4, 0), (0, 4), (4, 4), (0, 0), (4, 4)]
        net = Net(points, [(0, 1, 2), (1, 3, 2), (4, 1, 2), (1, 5, 2)])
        menu = [(4, (2, 2)), (5, (2, 2)), (1, (-4, 8)), (0, (9, 9))]
        moves, samples = Moves(net, menu), Samples([(1, 1), (3, 3)])
        self.assertEqual(moves.least(HALF, samples), [(2,), (0, 1)])
        good = list(moves.good(HALF, samples))
        self.assertIn((0, 1, 2), good)
        self.assertNotIn((0,), good)

    def test_a_good_set_may_have_greater_sets_that_are_not(self):
        net = Net(POINTS[:3], [(0, 1, 2)])
        moves = Moves(net, [(0, (9, 9)), (0, (1, -1))])
        samples = Samples([(1, 1), (5, 5)])
        self.assertEqual(list(moves.good(HALF, samples)), [(), (1,), (0, 1)])
        self.assertEqual(moves.least(HALF, samples), [()])

    def test_lists_are_new(self):
        moves, samples = Moves(new_net(), MENU), Samples([(1, 1)])
        moves.least(HALF, samples).clear()
        self.assertEqual(moves.least(HALF, samples), moves.least(HALF, samples))
        self.assertNotEqual(moves.least(HALF, samples), [])

    def test_nothing_changes(self):
        moves, samples, half = Moves(new_net(), MENU), Samples([(1, 1)]), Half((1, 0), True)
        list(moves.good(half, samples))
        moves.least(half, samples)
        self.assertEqual(moves.behind(()), new_net())
        self.assertEqual((samples, half), (Samples([(1, 1)]), Half((1, 0), True)))


class FaultsTest(Case):
    def test_in_another_manner(self):
        for points, triples, menu, samples, half in mixed_cases():
            moves = Moves(Net(points, triples), menu)
            for picks in all_sets(len(menu)):
                expected = faults_by_hand(half, net_by_hand(points, triples, menu, picks), samples)
                self.assert_points(moves.faults(half, samples, picks), expected)
                self.assert_points(moves.faults(picks=picks, samples=samples, half=half), expected)

    def test_in_order(self):
        moves = Moves(new_net(), [])
        self.assert_points(moves.faults(HALF, Samples([(1, 2), (2, 1), (1, 1), (4, 4), (9, 9)]), ()),
                           [(1, 1), (2, 1), (1, 2)])

    def test_lists_are_new(self):
        moves, samples = Moves(new_net(), []), Samples([(1, 1)])
        moves.faults(HALF, samples, ()).clear()
        self.assert_points(moves.faults(HALF, samples, ()), [(1, 1)])


if __name__ == "__main__":
    unittest.main()
