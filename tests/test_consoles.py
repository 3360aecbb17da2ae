"""13.4: consoles, the rows that they execute and what they answer."""

import itertools
import random
import unittest

from filledonce.consoles import Console
from filledonce.errors import InvalidCommand, InvalidNumber, NothingLeft, UnknownName
from filledonce.nets import Net, counted_owners, signed
from filledonce.points import Point
from filledonce.rules import Half
from tests.common import Case

POINTS = [(0, 0), (4, 0), (0, 4), (-3, 5)]

TRIPLES = [(0, 1, 2), (0, 2, 3), (2, 1, 0)]

HALF = Half((1, 0), True)

LONG = "9" * 100

ASKED = ["moves", "rim", *[f"point {index}" for index in range(4)],
         *[f"count {x} {y}" for x in (0, 1, 5) for y in (0, 1)], "owners 1 1", "owners 0 2"]


def new_net():
    return Net(POINTS, TRIPLES)


def new_console(*rows):
    console = Console(new_net(), HALF)
    for row in rows:
        console.execute(row)
    return console


class RowsTest(Case):
    def answers(self, console, rows):
        """What is answered to these rows, each of which must be as it is written behind it."""
        for row, answer in rows:
            found = console.execute(row)
            self.assertIs(type(found), str)
            self.assertEqual((row, found), (row, answer))

    def test_moves(self):
        self.answers(new_console(), [
            ("moves", "0"), ("move 1 0 -4", "4 0"), ("point 1", "0 -4"), ("move 1 7 0", "0 -4"), ("moves", "2"),
            ("undo 1", "1"), ("point 1", "0 -4"), ("undo 1", "0"), ("point 1", "4 0"), ("redo 2", "2"),
            ("point 1", "7 0"), ("undo 2", "0"), ("redo 1", "1"), ("moves", "1"), ("move 3 -10 -20", "-3 5"),
            ("moves", "2"), ("point 3", "-10 -20")])

    def test_names(self):
        self.answers(new_console(), [
            ("keep none", "ok"), ("move 0 1 1", "0 0"), ("keep a", "ok"), ("move 0 2 2", "1 1"),
            ("keep abcdefgh", "ok"), ("turn none", "0"), ("point 0", "0 0"), ("turn a", "1"), ("point 0", "1 1"),
            ("turn abcdefgh", "2"),
            ("keep a", "ok"), ("undo 2", "0"), ("turn a", "2"), ("moves", "2"), ("keep keep", "ok"),
            ("turn keep", "2"), ("keep turn", "ok"), ("turn turn", "2")])

    def test_points(self):
        self.answers(new_console(), [(f"point {index}", f"{x} {y}") for index, (x, y) in enumerate(POINTS)])

    def test_counts_and_owners(self):
        for half in [Half(way, ahead) for way in [(1, 0), (-1, 0), (2, 3)] for ahead in [True, False]]:
            net = new_net()
            console = Console(net, half)
            for x, y in itertools.product(range(-4, 6), repeat=2):
                against, along = counted_owners(half, net, (x, y))
                self.answers(console, [(f"count {x} {y}", str(signed(half, net, (x, y)))),
                                       (f"owners {x} {y}", f"{against} {along}")])

    def test_counts_hang_on_the_moves(self):
        self.answers(new_console(), [
            ("count 1 1", "0"), ("owners 1 1", "1 1"), ("move 0 3 9", "0 0"), ("owners 1 1", "0 0"), ("undo 1", "0"),
            ("owners 1 1", "1 1"), ("count -1 3", "1")])
        console = Console(Net(POINTS, [(0, 2, 1), (0, 2, 1)]), HALF)
        self.answers(console, [("count 1 1", "-2"), ("owners 1 1", "0 2")])

    def test_rim(self):
        for triples, answer in [([], "-"), ([(0, 1, 2)], "0>1 1>2 2>0"), ([(0, 1, 2), (0, 2, 1)], "-"),
                                ([(2, 1, 0), (2, 1, 0)], "0>2 0>2 1>0 1>0 2>1 2>1"),
                                ([(0, 1, 2), (1, 3, 2)], "0>1 1>3 2>0 3>2")]:
            self.answers(Console(Net(POINTS, triples), HALF), [("rim", answer), ("move 0 9 9", "0 0"), ("rim", answer)])
        many = Console(Net([(at, at * at) for at in range(12)], [(0, 10, 11)]), HALF)
        self.answers(many, [("rim", "0>10 10>11 11>0")])

    def test_a_net_without_anything(self):
        console = Console(Net([], []), HALF)
        self.answers(console, [("rim", "-"), ("moves", "0"), ("count 0 0", "0"), ("owners 0 0", "0 0")])
        self.assertEqual(self.refused(InvalidNumber, console.execute, "point 0").number, 0)

    def test_numbers_of_a_hundred_digits(self):
        self.answers(new_console(), [
            (f"move 0 {LONG} -{LONG}", "0 0"), ("point 0", f"{LONG} -{LONG}"), ("move 0 0 0", f"{LONG} -{LONG}"),
            (f"count {LONG} -{LONG}", "0"), (f"owners -{LONG} {LONG}", "0 0")])

    def test_names_of_arguments(self):
        self.assertEqual(Console(half=HALF, net=new_net()).execute(row="moves"), "0")

    def test_as_the_history_by_hand(self):
        source = random.Random(103)
        console, done, later = new_console(), [], []
        for number in range(300):
            word, many = source.choice(["move", "undo", "redo"]), source.randint(1, 2)
            if word == "move":
                entry = (source.randrange(4), (source.randint(-9, 9), source.randint(-9, 9)))
                points = list(POINTS)
                for index, point in done:
                    points[index] = point
                index, (x, y) = entry
                self.answers(console, [(f"move {index} {x} {y}", f"{points[index][0]} {points[index][1]}")])
                done, later = done + [entry], []
            elif word == "undo" and many <= len(done):
                done, later = done[:-many], done[-many:] + later
                self.answers(console, [(f"undo {many}", str(len(done)))])
            elif word == "redo" and many <= len(later):
                done, later = done + later[:many], later[many:]
                self.answers(console, [(f"redo {many}", str(len(done)))])
            self.answers(console, [("moves", str(len(done)))])


class WrongRowsTest(Case):
    def assert_no_row(self, row):
        console = new_console("move 0 1 1", "keep a", "move 1 5 5", "undo 1")
        before = [console.execute(asked) for asked in ASKED]
        found = self.refused(InvalidCommand, console.execute, row).row
        self.assertIs(found, row)
        self.assertEqual([console.execute(asked) for asked in ASKED], before)
        self.assertEqual([console.execute("redo 1"), console.execute("turn a")], ["2", "1"])

    def test_no_strings(self):
        for thing in [None, True, 0, 1, b"rim", ["rim"], ("rim",), ("undo", 1), {}, set(), 1.5, object(), Point(1, 2)]:
            self.assert_no_row(thing)

    def test_blanks(self):
        for row in ["rim", "moves", "move 0 1 2", "undo 1", "redo 1", "keep b", "turn a", "point 0", "count 1 1",
                    "owners 1 1"]:
            for wrong in [" " + row, row + " ", "\t" + row, row + "\t", row + "\n", "\n" + row, row + "\r",
                          "  " + row + "  "]:
                self.assert_no_row(wrong)
            if " " in row:
                for between in ["  ", "\t", "\n", "", ",", "\u00a0", " \t"]:
                    self.assert_no_row(row.replace(" ", between))
        for row in ["", " ", "  ", "\n"]:
            self.assert_no_row(row)

    def test_numbers(self):
        for number in ["", "00", "01", "-0", "-00", "-01", "+1", "+0", "--1", "-", "1-", "1.0", "1e1", "0x1", "1_0",
                       "a", "1a", "\u0661", "\uff11", "\u00b2", "1,", "9" * 101, "-" + "9" * 101, "1" + "0" * 100,
                       "True", "None"]:
            for row in ["point @", "undo @", "redo @", "move @ 1 1", "move 0 @ 1", "move 0 1 @", "count @ 1",
                        "count 1 @", "owners @ 1", "owners 1 @"]:
                self.assert_no_row(row.replace("@", number))

    def test_words_left_out_or_more(self):
        for row in ["move", "move 0", "move 0 1", "move 0 1 2 3", "undo", "undo 1 1", "redo", "redo 1 1", "keep",
                    "keep a b", "turn", "turn a a", "point", "point 0 0", "count", "count 1", "count 1 1 1", "owners",
                    "owners 1", "owners 1 1 1", "rim 0", "rim rim", "moves 1", "moves moves", "1", "0 1 1"]:
            self.assert_no_row(row)

    def test_other_words_and_capitals(self):
        for row in ["Rim", "RIM", "Move 0 1 1", "MOVE 0 1 1", "Undo 1", "Keep a", "TURN a", "Point 0", "Count 1 1",
                    "Owners 1 1", "Moves", "jump", "jump 1", "kept", "net_now", "signed 1 1", "len", "help",
                    "mov 0 1 1", "ri", "rims", "owner 1 1", "point: 0", "-", "execute rim"]:
            self.assert_no_row(row)

    def test_names_that_are_none(self):
        for name in ["", "abcdefghi", "A", "aB", "a1", "1", "a_b", "a-b", "\u00e4", "a.", "-"]:
            self.assert_no_row("keep " + name)
            self.assert_no_row("turn " + name)


class ErrorsOfMethodsTest(Case):
    def assert_nothing_changes(self, error, part, row, worth):
        console = new_console("move 0 1 1", "keep a", "move 1 5 5", "undo 1")
        before = [console.execute(asked) for asked in ASKED]
        self.assertEqual(getattr(self.refused(error, console.execute, row), part), worth)
        self.assertEqual([console.execute(asked) for asked in ASKED], before)
        self.assertEqual([console.execute("redo 1"), console.execute("turn a")], ["2", "1"])

    def test_indexes(self):
        for index in [-1, 4, 99, int(LONG), -int(LONG)]:
            self.assert_nothing_changes(InvalidNumber, "number", f"point {index}", index)
            self.assert_nothing_changes(InvalidNumber, "number", f"move {index} 1 1", index)

    def test_nothing_left(self):
        for many in [0, -1, 2, int(LONG)]:
            self.assert_nothing_changes(NothingLeft, "many", f"undo {many}", many)
            self.assert_nothing_changes(NothingLeft, "many", f"redo {many}", many)

    def test_unknown_names(self):
        for name in ["b", "aa", "moves", "abcdefgh"]:
            self.assert_nothing_changes(UnknownName, "name", f"turn {name}", name)


class CopiesTest(Case):
    def test_the_net_can_be_changed(self):
        net = new_net()
        console = Console(net, HALF)
        net[0] = (50, 50)
        self.assertEqual([console.execute("point 0"), console.execute("move 0 7 7")], ["0 0", "0 0"])
        self.assertEqual(net[0].pair(), (50, 50))

    def test_the_half_can_be_changed(self):
        half = Half((1, 0), True)
        console = Console(Net(POINTS, [(0, 1, 2)]), half)
        self.assertEqual(console.execute("count 2 0"), "1")
        half.ahead = False
        half.way = (0, 1)
        self.assertEqual(console.execute("count 2 0"), "1")
        self.assertEqual(Console(Net(POINTS, [(0, 1, 2)]), Half((1, 0), False)).execute("count 2 0"), "0")

    def test_consoles_stand_alone(self):
        net = new_net()
        one, other = Console(net, HALF), Console(net, HALF)
        one.execute("move 0 9 9")
        one.execute("keep a")
        self.assertEqual([other.execute("moves"), other.execute("point 0")], ["0", "0 0"])
        self.refused(UnknownName, other.execute, "turn a")


if __name__ == "__main__":
    unittest.main()
