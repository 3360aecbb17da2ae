"""2.1 to 2.4: tables and halves."""

import itertools
import types
import unittest

from filledonce.errors import InvalidHalf, InvalidNumber, InvalidPoint, InvalidTable, NoDirection
from filledonce.points import Point
from filledonce.rules import Half, Rule, Table, all_tables, half_of, set_part, table_of
from tests.common import GREAT, NO_INTEGERS, NO_POINTS, NO_TRUTHS, TRUTHS, Case, square

BY_KIND = [[(1, 0), (7, 0), (GREAT, 0)], [(1, 1), (9, 2), (GREAT, 1), (1, GREAT)], [(0, 1), (0, 7), (0, GREAT)],
           [(-1, 1), (-2, 9), (-GREAT, 1), (-1, GREAT)], [(-1, 0), (-7, 0), (-GREAT, 0)],
           [(-1, -1), (-9, -2), (-GREAT, -1), (-1, -GREAT)], [(0, -1), (0, -7), (0, -GREAT)],
           [(1, -1), (2, -9), (GREAT, -1), (1, -GREAT)]]

AXES = [(1, 0), (0, 1), (-1, 0), (0, -1)]

OTHER_WAYS = [(1, 1), (-1, 1), (-1, -1), (1, -1), (3, 1), (-3, -1), (1, 2), (-2, 3), (4, -3)]

# Directions along and between all lines of the ways above: each two of these have some between them here.
NEAR = [way for way in square(-12, 12) if way != (0, 0)]

SOME = [True, False, False, True, True, True, False, True]


def all_halves():
    return [Half(way, ahead) for way in [*AXES, *OTHER_WAYS] for ahead in TRUTHS]


def turned(way):
    return (-way[1], way[0])


def added(one, other, many=1):
    return (one[0] * many + other[0], one[1] * many + other[1])


def table_with(kinds):
    return Table([kind in kinds for kind in range(8)])


def shown(rule, ways):
    return [rule(way) for way in ways]


class RuleCase(Case):
    def assert_refuses_what_is_no_direction(self, rule):
        for thing in NO_POINTS:
            with self.subTest(thing=thing):
                self.assertIs(self.refused(InvalidPoint, rule, thing).thing, thing)
        for thing in [(0, 0), Point(0, 0), Point.origin()]:
            self.assertIs(self.refused(NoDirection, rule, thing).thing, thing)


class TableTest(RuleCase):
    def test_called_with_all_kinds(self):
        for kinds in [SOME, [not truth for truth in SOME], [True] * 8, [False] * 8]:
            table = Table(kinds)
            for kind, ways in enumerate(BY_KIND):
                for way in ways:
                    self.assert_truth(table(way), kinds[kind])
                    self.assert_truth(table(Point(*way)), kinds[kind])
                    self.assert_truth(table(direction=way), kinds[kind])

    def test_called_with_what_is_no_direction(self):
        self.assert_refuses_what_is_no_direction(Table(SOME))
        self.assert_refuses_what_is_no_direction(Table.nothing())

    def test_it_is_a_rule(self):
        self.assertIsInstance(Table(SOME), Rule)
        self.assertIsInstance(Half((1, 0), True), Rule)

    def test_made_of_a_list_or_a_tuple(self):
        for table in [Table(SOME), Table(tuple(SOME)), Table(kinds=SOME)]:
            self.assertEqual(table.kinds(), SOME)
            self.assertIs(type(table.kinds()), list)

    def test_made_of_anything_else(self):
        things = [None, True, 0, 255, "", "TFTFTFTF", b"12345678", {}, set(), [], (), SOME[:7], [*SOME, True],
                  tuple(SOME[:7]), (*SOME, False), dict(enumerate(SOME)), dict.fromkeys("abcdefgh", True), range(8)]
        things.append(Table(SOME))
        for thing in things:
            with self.subTest(thing=thing):
                self.assertIs(self.refused(InvalidTable, Table, thing).thing, thing)

    def test_one_entry_is_no_truth(self):
        for wrong in NO_TRUTHS:
            for at in range(8):
                kinds = list(SOME)
                kinds[at] = wrong
                for thing in [kinds, tuple(kinds)]:
                    with self.subTest(thing=thing):
                        self.assertIs(self.refused(InvalidTable, Table, thing).thing, thing)

    def test_the_list_passed_is_neither_changed_nor_kept(self):
        passed = list(SOME)
        table = Table(passed)
        table[0] = False
        self.assertEqual(passed, SOME)
        passed[1] = not passed[1]
        passed.append(True)
        self.assertEqual(table.kinds(), [False, *SOME[1:]])

    def test_kinds_is_new_each_time(self):
        table = Table(SOME)
        found = table.kinds()
        self.assertIsNot(found, table.kinds())
        found[0] = False
        found.clear()
        self.assertEqual(table.kinds(), SOME)
        self.assert_truth(table((1, 0)), True)

    def test_items(self):
        table = Table(SOME)
        self.assertEqual([table[kind] for kind in range(8)], SOME)
        for kind in range(8):
            for truth in TRUTHS:
                kinds = table.kinds()
                kinds[kind] = truth
                table[kind] = truth
                self.assert_truth(table[kind], truth)
                self.assertEqual(table.kinds(), kinds)
                self.assert_truth(table(BY_KIND[kind][1]), truth)

    def test_no_such_kind(self):
        table = Table(SOME)
        for kind in [-1, 8, 9, -8, GREAT, *NO_INTEGERS]:
            with self.subTest(kind=kind):
                self.assertIs(self.refused(InvalidNumber, lambda: table[kind]).number, kind)
                for truth in [True, False, None, 1]:
                    self.assertIs(self.refused(InvalidNumber, table.__setitem__, kind, truth).number, kind)
                self.assertEqual(table.kinds(), SOME)

    def test_no_truth_is_set(self):
        table = Table(SOME)
        for truth in NO_TRUTHS:
            for kind in range(8):
                self.assertIs(self.refused(InvalidTable, table.__setitem__, kind, truth).thing, truth)
        self.assertEqual(table.kinds(), SOME)

    def test_all_others(self):
        for table in all_tables():
            kinds = table.kinds()
            other = ~table
            self.assertIs(type(other), Table)
            self.assertEqual(other.kinds(), [not truth for truth in kinds])
            self.assertEqual(table.kinds(), kinds)
            other[0] = True
            self.assertEqual(table.kinds(), kinds)

    def test_len(self):
        for table in all_tables():
            self.assertEqual(len(table), table.kinds().count(True))

    def test_nothing(self):
        table = Table.nothing()
        self.assertIs(type(table), Table)
        self.assertEqual(table.kinds(), [False] * 8)
        self.assertEqual(len(table), 0)
        table[3] = True
        self.assertEqual(Table.nothing().kinds(), [False] * 8)

    def test_all_tables(self):
        self.assertIsInstance(all_tables(), types.GeneratorType)
        tables = list(all_tables())
        self.assertEqual(len(tables), 256)
        for number, table in enumerate(tables):
            self.assertIs(type(table), Table)
            self.assertEqual(table.kinds(), [bit == "1" for bit in reversed(f"{number:08b}")])

    def test_all_tables_are_new(self):
        next(all_tables())[0] = True
        self.assertEqual(len(next(all_tables())), 0)


class HalfTest(RuleCase):
    def test_left_right_and_on_the_line(self):
        for way in [*AXES, *OTHER_WAYS, (GREAT, GREAT - 1), (-GREAT, 1)]:
            left = turned(way)
            back = turned(left)
            right = turned(back)
            for ahead in TRUTHS:
                half = Half(way, ahead)
                for near in [way, back]:
                    for many in [0, 1, 5, GREAT]:
                        self.assert_truth(half(added(near, left, many)), True)
                        self.assert_truth(half(added(near, right, many)), False)
                for many in [1, 2, GREAT]:
                    self.assert_truth(half(added(way, (0, 0), many)), ahead)
                    self.assert_truth(half(Point(*way) * many), ahead)
                    self.assert_truth(half(direction=added(back, (0, 0), many)), not ahead)

    def test_by_the_cross(self):
        for half in all_halves():
            x, y = half.way.pair()
            for way in NEAR:
                cross = x * way[1] - y * way[0]
                along = x * way[0] + y * way[1] > 0
                self.assert_truth(half(way), cross > 0 or (cross == 0 and along is half.ahead))

    def test_just_beside_the_line(self):
        for ahead in TRUTHS:
            half = Half((GREAT, 0), ahead)
            self.assert_truth(half((GREAT, 1)), True)
            self.assert_truth(half((GREAT, -1)), False)
            self.assert_truth(half((-GREAT, 1)), True)
            self.assert_truth(half((-GREAT, -1)), False)

    def test_called_with_what_is_no_direction(self):
        self.assert_refuses_what_is_no_direction(Half((3, 1), False))

    def test_way_is_shown_shortest(self):
        for passed, way in [((6, -9), (2, -3)), ((5, 0), (1, 0)), ((0, -GREAT), (0, -1)), ((-4, -4), (-1, -1)),
                            ((GREAT * 2, GREAT * 2 + 2), (GREAT, GREAT + 1)), ((2, 3), (2, 3))]:
            for thing in [passed, Point(*passed)]:
                half = Half(thing, True)
                self.assertIs(type(half.way), Point)
                self.assertEqual(half.way.pair(), way)
                half.way = (7, 7)
                half.way = thing
                self.assertEqual(half.way.pair(), way)

    def test_by_name(self):
        half = Half(ahead=False, way=(4, 2))
        self.assertEqual((half.way.pair(), half.ahead), ((2, 1), False))

    def test_made_of_no_direction(self):
        for thing in [*NO_POINTS, (0, 0), Point(0, 0)]:
            for ahead in [True, None]:
                with self.subTest(thing=thing, ahead=ahead):
                    self.assertEqual(self.refused(InvalidHalf, Half, thing, ahead).part, "way")

    def test_made_of_no_truth(self):
        for thing in NO_TRUTHS:
            self.assertEqual(self.refused(InvalidHalf, Half, (1, 0), thing).part, "ahead")

    def test_parts_are_set(self):
        half = Half((1, 0), True)
        half.way = (0, 6)
        self.assertEqual((half.way.pair(), half.ahead), ((0, 1), True))
        self.assertEqual(shown(half, [(1, 0), (-1, 0), (0, 1), (0, -1)]), [False, True, True, False])
        half.ahead = False
        self.assertEqual((half.way.pair(), half.ahead), ((0, 1), False))
        self.assertEqual(shown(half, [(1, 0), (-1, 0), (0, 1), (0, -1)]), [False, True, False, True])

    def test_wrong_parts_change_nothing(self):
        half = Half((2, 1), False)
        for thing in [*NO_POINTS, (0, 0), Point(0, 0)]:
            self.assertEqual(self.refused(InvalidHalf, setattr, half, "way", thing).part, "way")
            self.assertEqual(self.refused(InvalidHalf, set_part, half, "way", thing).part, "way")
        for thing in NO_TRUTHS:
            self.assertEqual(self.refused(InvalidHalf, setattr, half, "ahead", thing).part, "ahead")
            self.assertEqual(self.refused(InvalidHalf, set_part, half, "ahead", thing).part, "ahead")
        self.assertEqual((half.way.pair(), half.ahead), ((2, 1), False))

    def test_set_part(self):
        half = Half((1, 0), True)
        self.assertIsNone(set_part(half, "way", (4, 6)))
        self.assertEqual((half.way.pair(), half.ahead), ((2, 3), True))
        self.assertIsNone(set_part(thing=False, part="ahead", half=half))
        self.assertEqual((half.way.pair(), half.ahead), ((2, 3), False))

    def test_set_another_part(self):
        half = Half((1, 0), True)
        for part in ["", "Way", "ways", "heading", "onward", "twin", None, 0, True, b"way", ["way"], ("way",), (1, 0)]:
            for thing in [True, (1, 2), None]:
                with self.subTest(part=part, thing=thing):
                    self.assertIs(self.refused(InvalidHalf, set_part, half, part, thing).part, part)
        self.assertEqual(half, Half((1, 0), True))

    def test_twin(self):
        half = Half((4, 2), False)
        twin = half.twin()
        self.assertIs(type(twin), Half)
        self.assertIsNot(twin, half)
        self.assert_equal_both_ways(twin, half)
        half.way = (0, 1)
        half.ahead = True
        self.assertEqual((twin.way.pair(), twin.ahead), ((2, 1), False))
        twin.way = (5, 5)
        self.assertEqual((half.way.pair(), half.ahead), ((0, 1), True))


class EqualityTest(Case):
    def test_tables(self):
        tables = list(all_tables())
        for number, table in enumerate(tables):
            self.assert_equal_both_ways(table, Table(tuple(table.kinds())))
            for other in [tables[number - 1], tables[number ^ 128], ~table]:
                self.assert_unlike_both_ways(table, other)

    def test_halves(self):
        for one, other in itertools.product(all_halves(), repeat=2):
            if one.way == other.way and one.ahead is other.ahead:
                self.assert_equal_both_ways(one, other)
            else:
                self.assert_unlike_both_ways(one, other)
        self.assert_equal_both_ways(Half((2, 4), True), Half((GREAT, 2 * GREAT), True))

    def test_a_table_never_equals_a_half(self):
        for half in all_halves():
            for table in [table_of(half), Table.nothing()]:
                if table is not None:
                    self.assert_unlike_both_ways(half, table)

    def test_no_other_value(self):
        self.assert_equals_no_foreign_value(Table(SOME), SOME, tuple(SOME), Point(1, 0))
        self.assert_equals_no_foreign_value(Half((1, 0), True), (1, 0), ((1, 0), True), Point(1, 0))


class OrderTest(Case):
    def test_each_two_of_tables_and_halves(self):
        rules = [*all_tables(), *all_halves()]
        inner = []
        for rule in rules:
            inner.append(sum(1 << at for at, way in enumerate(NEAR) if rule(way)))
        for one, ways in zip(rules, inner):
            for other, other_ways in zip(rules, inner):
                self.assertIs(one <= other, ways & ~other_ways == 0)

    def test_halves_with_lines_close_to_one_another(self):
        ways = [(GREAT, GREAT - 1), (GREAT, GREAT), (GREAT, GREAT + 1), (-GREAT, -GREAT), (GREAT, 1), (GREAT, 0)]
        halves = [Half(way, ahead) for way in ways for ahead in TRUTHS]
        for one, other in itertools.product(halves, repeat=2):
            same = one.way == other.way and one.ahead is other.ahead
            self.assertIs(one <= other, same)

    def test_halves_with_numbers_of_thirty_digits_and_tables(self):
        for way, full, cut in [((GREAT, 1), [2, 3, 4], [1, 5]), ((1, GREAT), [2, 3, 4], [1, 5]),
                               ((GREAT, -1), [0, 1, 2], [3, 7]), ((-GREAT, 1), [4, 5, 6], [3, 7])]:
            for ahead in TRUTHS:
                half = Half(way, ahead)
                self.assert_truth(half <= table_with(full + cut), True)
                self.assert_truth(table_with(full) <= half, True)
                self.assert_truth(half <= table_with(full), False)
                self.assert_truth(table_with(full + cut) <= half, False)
                for kind in cut:
                    self.assert_truth(half <= table_with([*full, kind]), False)
                    self.assert_truth(table_with([*full, kind]) <= half, False)

    def test_truths_are_true_or_false(self):
        self.assertIs(Table(SOME) <= Table(SOME), True)
        self.assertIs(Half((1, 2), True) <= Half((1, 2), True), True)
        self.assertIs(Half((1, 2), True) <= Table.nothing(), False)

    def test_it_changes_nothing(self):
        table, half = Table(SOME), Half((1, 2), True)
        for one, other in itertools.product([table, half], repeat=2):
            self.assertIn(one <= other, TRUTHS)
        self.assertEqual((table.kinds(), half), (SOME, Half((1, 2), True)))


class ThereAndBackTest(Case):
    def test_tables(self):
        with_half = []
        for number, table in enumerate(all_tables()):
            half = half_of(table)
            if half is not None:
                with_half.append(number)
                self.assertIs(type(half), Half)
                self.assertEqual(shown(half, NEAR), shown(table, NEAR))
                self.assert_equal_both_ways(table_of(half), table)
        four = [{(first + by) % 8 for by in range(4)} for first in range(8)]
        self.assertEqual(with_half, sorted(sum(1 << kind for kind in kinds) for kinds in four))

    def test_halves_along_the_axes(self):
        for way, ahead in itertools.product([*AXES, (0, 7), (-GREAT, 0)], TRUTHS):
            half = Half(way, ahead)
            table = table_of(half)
            self.assertIs(type(table), Table)
            self.assertEqual(shown(half, NEAR), shown(table, NEAR))
            self.assert_equal_both_ways(half_of(table), half)

    def test_other_halves(self):
        for way, ahead in itertools.product([*OTHER_WAYS, (GREAT, 1), (-1, GREAT)], TRUTHS):
            self.assertIsNone(table_of(Half(way, ahead)))

    def test_what_is_returned_is_new(self):
        half, table = Half((1, 0), True), Table([True] * 4 + [False] * 4)
        table_of(half)[0] = False
        half_of(table).way = (3, 3)
        self.assertEqual(table_of(half=half), table)
        self.assertEqual(half_of(table=table), half)


if __name__ == "__main__":
    unittest.main()
