"""13.1 to 13.3: histories, kept names, and trials."""

import random
import unittest

from filledonce.errors import InvalidCall, InvalidName, InvalidNumber, InvalidPoint, NothingLeft, UnknownName
from filledonce.histories import History, Trial, tried
from filledonce.nets import Net
from filledonce.points import Point
from tests.common import GREAT, NO_INTEGERS, NO_POINTS, Case, Equal, pairs

POINTS = [(0, 0), (4, 0), (0, 4)]

NO_NAMES = ["", "abcdefghi", "A", "Ab", "aB", "a b", " a", "a ", "a1", "1", "a_", "-", "a\n", "\u00e4", "\u0131", None,
            True, 0, b"a", ["a"], ("a",), {"a": 1}, object(), Point(1, 2)]


def new_net():
    return Net(POINTS, [(0, 1, 2)])


def new_history(*moves):
    history = History(new_net())
    for index, point in moves:
        history.move(index, point)
    return history


def told(history):
    """The moves that stand, as pairs of plain numbers."""
    return [(index, point.pair()) for index, point in history.moves()]


def state(history):
    """All that can be asked of a history, and, in a trial, of what can be made again and is kept."""
    found = [told(history), len(history), pairs(history.net_now().points()), history.kept()]
    later = []
    with Trial(history):
        while True:
            try:
                history.redo(1)
            except NothingLeft:
                break
            later.append(told(history)[-1])
    kept = []
    for name in history.kept():
        with Trial(history):
            history.turn(name)
            kept.append(told(history))
    return [*found, later, kept]


A, B, C, D = (0, (1, 1)), (1, (2, 2)), (0, (3, 3)), (2, (-5, 7))


class MoveTest(Case):
    def test_it_returns_what_stood_there(self):
        history = History(new_net())
        found = [history.move(0, (1, 1)), history.move(0, Point(2, 2)), history.move(1, (9, 9)),
                 history.move(0, (0, 0))]
        self.assert_points(found, [(0, 0), (1, 1), (4, 0), (2, 2)])
        self.assertEqual(told(history), [(0, (1, 1)), (0, (2, 2)), (1, (9, 9)), (0, (0, 0))])

    def test_names(self):
        history = History(net=new_net())
        self.assertEqual(history.move(point=(5, 6), index=2).pair(), (0, 4))
        self.assertEqual(history.undo(many=1), 0)
        self.assertEqual(history.redo(many=1), 1)
        self.assertIsNone(history.keep(name="ab"))
        self.assertEqual(history.turn(name="ab"), 1)

    def test_thirty_digits(self):
        history = new_history((0, (GREAT, -GREAT)))
        self.assertEqual(history.move(0, (1, 1)).pair(), (GREAT, -GREAT))

    def test_wrong_index_ahead_of_wrong_point(self):
        history = new_history(A, B)
        history.undo(1)
        before = state(history)
        for thing in [*NO_INTEGERS, -1, 3, GREAT]:
            for point in [(1, 1), None]:
                self.assertIs(self.refused(InvalidNumber, history.move, thing, point).number, thing)
                self.assertEqual(state(history), before)

    def test_wrong_point(self):
        history = new_history(A, B)
        history.undo(1)
        before = state(history)
        for thing in NO_POINTS:
            self.assertIs(self.refused(InvalidPoint, history.move, 0, thing).thing, thing)
            self.assertEqual(state(history), before)
        self.assertEqual(before[4], [B])

    def test_the_net_is_a_twin(self):
        net = new_net()
        history = History(net)
        history.move(0, (1, 1))
        self.assertEqual(net, new_net())
        net[1] = (50, 50)
        self.assertEqual(pairs(history.net_now().points()), [(1, 1), (4, 0), (0, 4)])

    def test_what_is_returned_is_new(self):
        history = new_history(A, B)
        history.keep("a")
        for call in [history.moves, history.kept]:
            self.assertIs(type(call()), list)
            self.assertIsNot(call(), call())
            call().clear()
        net = history.net_now()
        self.assertIs(type(net), Net)
        net[2] = (60, 60)
        self.assertEqual(state(history), [[A, B], 2, [(1, 1), (2, 2), (0, 4)], ["a"], [], [[A, B]]])

    def test_moves_are_pairs_of_an_index_and_a_point(self):
        for entry in new_history(A, B).moves():
            self.assertIs(type(entry), tuple)
            self.assertIs(type(entry[0]), int)
            self.assertIs(type(entry[1]), Point)

    def test_net_now(self):
        history = new_history(A, B, C)
        self.assertEqual(history.net_now(), Net([(3, 3), (2, 2), (0, 4)], [(0, 1, 2)]))
        history.undo(1)
        self.assertEqual(history.net_now(), Net([(1, 1), (2, 2), (0, 4)], [(0, 1, 2)]))
        history.undo(2)
        self.assertEqual(history.net_now(), new_net())


class UndoTest(Case):
    def test_there_and_back(self):
        history = new_history(A, B, C, D)
        self.assertEqual(history.undo(1), 3)
        self.assertEqual(history.undo(2), 1)
        self.assertEqual(state(history), [[A], 1, [(1, 1), (4, 0), (0, 4)], [], [B, C, D], []])
        self.assertEqual(history.redo(1), 2)
        self.assertEqual(told(history), [A, B])
        self.assertEqual(history.redo(2), 4)
        self.assertEqual(told(history), [A, B, C, D])

    def test_all_at_once(self):
        history = new_history(A, B, C, D)
        self.assertEqual(history.undo(4), 0)
        self.assertEqual(len(history), 0)
        self.assertEqual(history.redo(4), 4)
        self.assertEqual(told(history), [A, B, C, D])

    def test_what_was_taken_back_last_is_made_again_first(self):
        history = new_history(A, B, C)
        history.undo(1)
        history.undo(1)
        history.redo(1)
        self.assertEqual(told(history), [A, B])

    def test_a_new_move_forgets_the_others(self):
        history = new_history(A, B, C)
        history.undo(2)
        history.move(*D)
        self.assertEqual(told(history), [A, D])
        self.assertEqual(self.refused(NothingLeft, history.redo, 1).many, 1)
        history.undo(1)
        history.redo(1)
        self.assertEqual(told(history), [A, D])

    def test_nothing_left(self):
        history = new_history(A, B, C)
        history.undo(1)
        before = state(history)
        for call, most in [(history.undo, 2), (history.redo, 1)]:
            for thing in [*NO_INTEGERS, 0, -1, most + 1, GREAT, -GREAT]:
                self.assertIs(self.refused(NothingLeft, call, thing).many, thing)
                self.assertEqual(state(history), before)

    def test_nothing_at_all(self):
        history = History(new_net())
        for call in [history.undo, history.redo]:
            self.assertEqual(self.refused(NothingLeft, call, 1).many, 1)

    def test_a_long_way_by_hand(self):
        source = random.Random(101)
        history, done, later = History(new_net()), [], []
        for number in range(500):
            word = source.choice(["move", "move", "undo", "redo"])
            many = source.randint(1, 3)
            if word == "move":
                entry = (source.randrange(3), (source.randint(-9, 9), source.randint(-9, 9)))
                history.move(*entry)
                done, later = done + [entry], []
            elif word == "undo" and many <= len(done):
                self.assertEqual(history.undo(many), len(done) - many)
                done, later = done[:-many], done[-many:] + later
            elif word == "redo" and many <= len(later):
                self.assertEqual(history.redo(many), len(done) + many)
                done, later = done + later[:many], later[many:]
            self.assertEqual(told(history), done)


class KeepTest(Case):
    def test_names_of_1_and_8_letters(self):
        history = new_history(A)
        for name in ["a", "z", "abcdefgh", "zzzzzzzz", "m"]:
            self.assertIsNone(history.keep(name))
        self.assertEqual(history.kept(), ["a", "z", "abcdefgh", "zzzzzzzz", "m"])

    def test_invalid_names(self):
        history = new_history(A, B)
        history.keep("a")
        history.undo(1)
        before = state(history)
        for thing in NO_NAMES:
            self.assertIs(self.refused(InvalidName, history.keep, thing).name, thing)
            self.assertEqual(state(history), before)

    def test_turn(self):
        history = new_history(A, B)
        history.keep("two")
        history.move(*C)
        history.keep("three")
        history.undo(3)
        history.keep("none")
        self.assertEqual(history.turn("two"), 2)
        self.assertEqual(told(history), [A, B])
        self.assertEqual(history.turn("three"), 3)
        self.assertEqual(told(history), [A, B, C])
        self.assertEqual(history.turn("none"), 0)
        self.assertEqual(told(history), [])
        self.assertEqual(history.kept(), ["two", "three", "none"])
        self.assertEqual(history.turn("two"), 2)
        self.assertEqual(pairs(history.net_now().points()), [(1, 1), (2, 2), (0, 4)])

    def test_what_is_kept_stays_when_others_are_made(self):
        history = new_history(A, B)
        history.keep("a")
        history.undo(2)
        history.move(*D)
        self.assertEqual(history.turn("a"), 2)
        history.move(*C)
        history.undo(1)
        history.undo(1)
        self.assertEqual(history.turn("a"), 2)
        self.assertEqual(told(history), [A, B])

    def test_in_the_place_of_earlier_ones(self):
        history = new_history(A)
        history.keep("b")
        history.keep("a")
        history.move(*B)
        history.keep("b")
        history.keep("c")
        self.assertEqual(history.kept(), ["b", "a", "c"])
        self.assertEqual([history.turn(name) for name in ["a", "b", "c"]], [1, 2, 2])
        history.turn("a")
        history.keep("c")
        self.assertEqual(history.kept(), ["b", "a", "c"])
        self.assertEqual(history.turn("c"), 1)

    def test_turn_forgets_what_can_be_made_again(self):
        history = new_history(A, B)
        history.keep("a")
        history.undo(1)
        history.turn("a")
        self.refused(NothingLeft, history.redo, 1)
        self.assertEqual(history.undo(2), 0)
        self.assertEqual(history.redo(2), 2)

    def test_keep_forgets_nothing(self):
        history = new_history(A, B)
        history.undo(1)
        history.keep("a")
        self.assertEqual(history.redo(1), 2)

    def test_unknown_names(self):
        history = new_history(A, B)
        history.keep("a")
        history.undo(1)
        before = state(history)
        for thing in [*NO_NAMES, "b", "aa", "abcdefgh"]:
            self.assertIs(self.refused(UnknownName, history.turn, thing).name, thing)
            self.assertEqual(state(history), before)
        self.refused(UnknownName, History(new_net()).turn, "a")


class Odd(Exception):
    """An error that is none of the package."""


class TrialTest(Case):
    def history(self):
        history = new_history(A, B, C)
        history.keep("a")
        history.undo(1)
        history.keep("b")
        return history

    def change(self, history):
        history.redo(1)
        history.keep("a")
        history.keep("c")
        history.undo(2)
        history.move(*D)
        history.keep("b")

    def test_behind_it_all_is_as_it_was(self):
        history = self.history()
        before = state(history)
        with Trial(history):
            self.change(history)
            self.assertNotEqual(state(history), before)
        self.assertEqual(state(history), before)
        self.assertEqual(history.redo(1), 3)
        self.assertEqual([history.turn("a"), history.turn("b")], [3, 2])

    def test_turn_in_a_trial(self):
        history = self.history()
        before = state(history)
        with Trial(history=history):
            history.turn("a")
            history.undo(3)
        self.assertEqual(state(history), before)

    def test_hold_fast(self):
        history, other = self.history(), self.history()
        with Trial(history) as trial:
            self.change(history)
            self.assertIsNone(trial.hold_fast())
        self.change(other)
        self.assertEqual(state(history), state(other))

    def test_what_comes_behind_hold_fast_stays_too(self):
        history, other = self.history(), self.history()
        with Trial(history) as trial:
            trial.hold_fast()
            trial.hold_fast()
            self.change(history)
        self.change(other)
        self.assertEqual(state(history), state(other))

    def test_entering_gives_the_trial(self):
        trial = Trial(new_history())
        with trial as given:
            self.assertIs(given, trial)

    def test_an_error_that_leaves_the_block(self):
        for error in [Odd, NothingLeft, KeyError, GeneratorExit]:
            history = self.history()
            before = state(history)
            made = error("x")
            with self.assertRaises(error) as caught:
                with Trial(history):
                    self.change(history)
                    raise made
            self.assertIs(caught.exception, made)
            self.assertEqual(state(history), before)

    def test_an_error_of_the_history(self):
        history = self.history()
        before = state(history)
        with self.assertRaises(UnknownName):
            with Trial(history):
                self.change(history)
                history.turn("x")
        self.assertEqual(state(history), before)

    def test_an_error_behind_hold_fast(self):
        history, other = self.history(), self.history()
        with self.assertRaises(Odd):
            with Trial(history) as trial:
                self.change(history)
                trial.hold_fast()
                raise Odd
        self.change(other)
        self.assertEqual(state(history), state(other))

    def test_trials_in_trials(self):
        history = self.history()
        before = state(history)
        with Trial(history):
            history.move(*D)
            middle = state(history)
            with Trial(history):
                self.change_a_little(history)
            self.assertEqual(state(history), middle)
            with Trial(history) as inner:
                self.change_a_little(history)
                inner.hold_fast()
            self.assertNotEqual(state(history), middle)
        self.assertEqual(state(history), before)

    def change_a_little(self, history):
        history.undo(1)
        history.keep("z")

    def test_ahead_of_the_block_nothing_is_kept(self):
        history = self.history()
        trial = Trial(history)
        history.move(*D)
        before = state(history)
        with trial:
            history.undo(1)
        self.assertEqual(state(history), before)

    def test_the_history_can_be_used_behind_it(self):
        history = new_history(A)
        with Trial(history):
            history.move(*B)
            history.keep("a")
        history.move(*C)
        history.keep("b")
        self.assertEqual(state(history), [[A, C], 2, [(3, 3), (4, 0), (0, 4)], ["b"], [], [[A, C]]])


class TriedTest(Case):
    def test_all_calls(self):
        calls = [("move", *A), ("move", 0, Point(2, 2)), ("undo", 1), ("keep", "a"), ("redo", 1), ("keep", "b"),
                 ("undo", 2), ("turn", "a"), ("turn", "b")]
        passed = list(calls)
        expected = [1, None, 2, None, 0, 1, 2]
        history = History(new_net())
        found = tried(history, passed)
        self.assertIs(type(found), list)
        self.assert_points(found[:2], [(0, 0), (1, 1)])
        self.assertEqual(found[2:], expected)
        self.assertEqual(passed, calls)
        self.assertEqual(state(history), state(History(new_net())))
        found = tried(history, passed, fast=True)
        self.assert_points(found[:2], [(0, 0), (1, 1)])
        self.assertEqual(found[2:], expected)
        self.assertEqual(state(history), [[A, (0, (2, 2))], 2, [(2, 2), (4, 0), (0, 4)], ["a", "b"], [],
                                          [[A], [A, (0, (2, 2))]]])

    def test_fast_or_not(self):
        for named, stays in [({}, False), ({"fast": False}, False), ({"fast": True}, True)]:
            history = new_history(A)
            self.assertEqual(tried(history, [("undo", 1)], **named), [0])
            self.assertEqual(told(history), [] if stays else [A])

    def test_fast_by_name_only(self):
        history = new_history(A)
        with self.assertRaises(TypeError):
            tried(history, [], True)
        self.assertEqual(tried(fast=True, calls=[("undo", 1)], history=history), [0])
        self.assertEqual(len(history), 0)

    def test_no_calls(self):
        history = new_history(A)
        for fast in [True, False]:
            self.assertEqual(tried(history, [], fast=fast), [])
        self.assertEqual(told(history), [A])

    def test_what_can_be_made_again_and_kept_names_stay(self):
        history = new_history(A, B, C)
        history.keep("a")
        history.undo(2)
        before = state(history)
        self.assertEqual(tried(history, [("redo", 1), ("keep", "a"), ("keep", "b"), ("turn", "a")]), [2, None, None, 2])
        self.assertEqual(state(history), before)

    def test_the_first_call_that_cannot_be_done(self):
        history = new_history(A, B)
        history.keep("a")
        history.undo(1)
        before = state(history)
        point = self.refused(InvalidPoint, History(new_net()).move, 0, None).thing
        wrong = [(("move", 3, (1, 1)), InvalidNumber, "number", 3), (("move", -1, None), InvalidNumber, "number", -1),
                 (("move", 0, None), InvalidPoint, "thing", point), (("undo", 5), NothingLeft, "many", 5),
                 (("undo", None), NothingLeft, "many", None), (("redo", 1), NothingLeft, "many", 1),
                 (("keep", "A"), InvalidName, "name", "A"), (("turn", "x"), UnknownName, "name", "x"),
                 (("jump", 1), InvalidCall, "call", ("jump", 1))]
        for call, error, part, worth in wrong:
            for fast in [True, False]:
                for calls in [[("move", *D), call], [("move", *D), ("keep", "c"), call, ("jump", 2), None],
                              [("move", *D), ("undo", 1), ("turn", "a"), call, ("undo", 1)]]:
                    found = self.refused(error, tried, history, calls, fast=fast)
                    self.assertEqual(getattr(found, part), worth)
                    self.assertEqual(state(history), before)

    def test_calls_behind_the_first_wrong_one_are_not_done(self):
        history = new_history(A)
        self.assertEqual(self.refused(NothingLeft, tried, history, [("undo", 7), ("jump", 1)]).many, 7)

    def test_no_call(self):
        history = new_history(A, B)
        history.keep("a")
        history.undo(1)
        before = state(history)
        wrong = [None, True, 0, 1, "undo", "move", b"undo", (), ("undo",), ("redo",), ("keep",), ("turn",), ("move",),
                 ("move", 0), ("move", 0, (1, 1), 2), ("move", 0, 1, 1), ("undo", 1, 1), ("redo", 1, 1),
                 ("keep", "a", "b"), ("turn", "a", "a"), ["undo", 1], ["move", 0, (1, 1)], ("Undo", 1), ("undo ", 1),
                 ("", 1), ("kept", "a"), ("moves", 1), ("net_now", 1), (1, "undo"), (None, 1), (["undo"], 1),
                 (b"undo", 1), {"undo": 1}, {"undo", 1}, Point(1, 2), object(), ("jump", 0, (1, 1)), ("hold_fast", 1),
                 (Equal(), 1), (Equal(), 0, (1, 1)), Equal()]
        for call in wrong:
            for fast in [True, False]:
                self.assertIs(self.refused(InvalidCall, tried, history, [("undo", 1), call], fast=fast).call, call)
                self.assertEqual(state(history), before)

    def test_in_a_trial(self):
        history = new_history(A, B)
        with Trial(history):
            self.assertEqual(tried(history, [("undo", 1)], fast=True), [1])
            self.assertEqual(len(history), 1)
        self.assertEqual(len(history), 2)


if __name__ == "__main__":
    unittest.main()
