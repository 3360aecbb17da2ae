"""0.2 and 0.4 over the whole program: what is passed and returned, names of arguments, and errors."""

import inspect
import itertools
import unittest

from filledonce import (bits, consoles, counting, directions, errors, grids, histories, meshes, moves, nets, papers,
                        points, rings, rules, shifts, spans, triangles, values, witnesses)
from filledonce.consoles import Console
from filledonce.grids import Grid, Samples
from filledonce.histories import History, Trial
from filledonce.meshes import Mesh
from filledonce.moves import Moves
from filledonce.nets import Net
from filledonce.points import Point
from filledonce.rings import Ring
from filledonce.rules import Half, Table
from filledonce.spans import Spans
from filledonce.triangles import Triangle
from tests.common import GREAT, Case
from tests.test_errors import PARAMETERS
from tests.test_interface import FUNCTIONS, METHODS

A, B, C, D = (0, 0), (4, 0), (0, 4), (4, 4)

TRUTHS = [True, False, True, False, True, False, True, False]


def triangle():
    return Triangle(A, B, C)


def mesh():
    return Mesh([Triangle(A, B, C), Triangle(B, D, C)])


def net():
    return Net([A, B, C, D], [(0, 1, 2), (1, 3, 2)])


def half():
    return Half((1, 0), True)


def samples():
    return Samples([(1, 1), (2, 2)])


def menu():
    return [(3, (6, 6)), (0, (9, 9))]


def history():
    made = History(net())
    made.move(0, (1, 1))
    made.keep("a")
    made.move(1, (5, 5))
    made.undo(1)
    return made


def plain(thing):
    """What can be asked of an object of the package, so that two answers can be compared."""
    if inspect.isgenerator(thing) or isinstance(thing, (list, tuple)):
        return (isinstance(thing, tuple), [plain(part) for part in thing])
    asked = {Point: lambda: thing.pair(), Triangle: lambda: plain(thing.corners()), Table: lambda: thing.kinds(),
             Half: lambda: (plain(thing.way), thing.ahead), Samples: lambda: plain(thing.points()),
             Mesh: lambda: plain(thing.triangles()), Net: lambda: (plain(thing.points()), thing.triples()),
             Ring: lambda: plain(thing.points()), Grid: lambda: plain(thing.between((-9, -9), (9, 9))),
             Spans: lambda: (thing.left, thing.right, thing.bottom, thing.top),
             Moves: lambda: (len(thing), plain(thing.behind(tuple(range(len(thing)))))),
             History: lambda: state(thing), Trial: lambda: None, Console: lambda: console_state(thing)}
    for kind, ask in asked.items():
        if type(thing) is kind:
            return (kind.__name__, ask())
    return thing


def state(made):
    """All of a history, what can be made again and what is kept included."""
    found = [plain(made.moves()), len(made), plain(made.net_now()), made.kept()]
    with Trial(made):
        later = 0
        while True:
            try:
                made.redo(1)
            except errors.NothingLeft:
                break
            later += 1
        found += [later, plain(made.moves())]
    for name in made.kept():
        with Trial(made):
            found += [made.turn(name), plain(made.moves())]
    return found


def console_state(console):
    return [console.execute(row) for row in ["moves", "rim", "point 0", "point 1", "count 1 1", "owners 2 0"]]


# One ordinary call of each function and class of the interface, with makers of what is passed.
CALLS = {
    (points, "Point"): [lambda: 3, lambda: 4],
    (points, "side"): [lambda: A, lambda: B, lambda: (1, 2)],
    (points, "quarter"): [lambda: (1, 2)],
    (directions, "kind_of"): [lambda: (1, 2)],
    (directions, "lowest"): [lambda: (2, 4)],
    (directions, "sorted_around"): [lambda: [(0, -1), (1, 2), (5, 0)]],
    (rules, "Table"): [lambda: list(TRUTHS)],
    (rules, "Half"): [lambda: (1, 2), lambda: True],
    (rules, "all_tables"): [],
    (rules, "set_part"): [half, lambda: "ahead", lambda: False],
    (rules, "table_of"): [half],
    (rules, "half_of"): [lambda: Table([True] * 4 + [False] * 4)],
    (triangles, "Triangle"): [lambda: A, lambda: B, lambda: C],
    (triangles, "owns"): [half, triangle, lambda: (1, 1)],
    (triangles, "apart"): [triangle, lambda: Triangle(B, D, C)],
    (grids, "Grid"): [lambda: 3, lambda: (1, 2)],
    (grids, "Samples"): [lambda: [(1, 2), Point(3, 4), (0, 0)]],
    (grids, "owned"): [half, triangle, Grid.unit],
    (shifts, "shift_of"): [half],
    (shifts, "owns_shifted"): [half, triangle, lambda: (2, 0), lambda: 9],
    (shifts, "scale_for"): [half, triangle, lambda: (2, 0)],
    (meshes, "Mesh"): [lambda: mesh().triangles()],
    (meshes, "inside"): [mesh, lambda: (2, 2)],
    (meshes, "owners"): [half, mesh, lambda: (2, 2)],
    (meshes, "judged"): [lambda: Table(TRUTHS), mesh, Grid.unit],
    (witnesses, "is_right"): [half],
    (witnesses, "shows"): [Table.nothing, mesh, lambda: (2, 2)],
    (witnesses, "faulty"): [lambda: Table(TRUTHS)],
    (nets, "Net"): [lambda: [A, B, Point(0, 4)], lambda: [(0, 1, 2)]],
    (nets, "signed"): [half, net, lambda: (1, 1)],
    (nets, "turns"): [half, lambda: [(A, B), (B, C), (C, A)], lambda: (1, 1)],
    (nets, "rim_turns"): [half, net, lambda: (1, 1)],
    (nets, "counted_owners"): [half, net, lambda: (1, 1)],
    (nets, "snapped"): [net, lambda: 3],
    (nets, "unlike"): [half, net, lambda: Net([A, B, C], [(0, 1, 2)]), Grid.unit],
    (rings, "Ring"): [lambda: [A, B, D, C]],
    (rings, "filled"): [half, lambda: Ring([A, B, D, C]), Grid.unit],
    (spans, "Spans"): [lambda: True, lambda: False, lambda: True, lambda: False],
    (counting, "floor_sum"): [lambda: 4, lambda: 3, lambda: 1, lambda: 2],
    (counting, "amount"): [half, triangle, Grid.unit],
    (counting, "twin_of"): [triangle],
    (bits, "wrapped"): [lambda: 9, lambda: 4],
    (bits, "least_bits"): [lambda: 7],
    (bits, "shows_bits"): [lambda: 7],
    (values, "weights"): [triangle, lambda: (1, 1)],
    (values, "value_at"): [triangle, lambda: [1, 2, 4], lambda: (1, 2)],
    (papers, "check"): [half, mesh, samples, lambda: papers.paper_of(half(), mesh(), samples())],
    (papers, "paper_of"): [half, mesh, samples],
    (moves, "Moves"): [net, menu],
    (moves, "is_clean"): [half, net, samples],
    (histories, "History"): [net],
    (histories, "Trial"): [history],
    (histories, "tried"): [history, lambda: [("undo", 1), ("move", 0, (7, 7)), ("keep", "b")]],
    (consoles, "Console"): [net, half],
}

# One ordinary call of each method with a plain name, and a maker of the object.
METHOD_CALLS = {
    ("Point", "pair"): (lambda: Point(1, 2), []),
    ("Point", "cross"): (lambda: Point(1, 2), [lambda: (3, 4)]),
    ("Table", "kinds"): (lambda: Table(TRUTHS), []),
    ("Half", "twin"): (half, []),
    ("Triangle", "corners"): (triangle, []),
    ("Triangle", "edges"): (triangle, []),
    ("Triangle", "moved"): (triangle, [lambda: (1, 2)]),
    ("Grid", "between"): (lambda: Grid(2, (0, 0)), [lambda: A, lambda: D]),
    ("Samples", "points"): (samples, []),
    ("Mesh", "triangles"): (mesh, []),
    ("Net", "points"): (net, []),
    ("Net", "triples"): (net, []),
    ("Net", "rim"): (net, []),
    ("Net", "twin"): (net, []),
    ("Ring", "points"): (lambda: Ring([A, B, D]), []),
    ("Ring", "ways"): (lambda: Ring([A, B, D]), []),
    ("Ring", "turned"): (lambda: Ring([A, B, D]), []),
    ("Ring", "turns"): (lambda: Ring([A, B, D]), [half, lambda: (2, 1)]),
    ("Ring", "fan"): (lambda: Ring([A, B, D]), [lambda: (2, 1)]),
    ("Spans", "takes"): (lambda: Spans(True, False, True, False), [triangle, lambda: A]),
    ("Spans", "filled"): (lambda: Spans(True, False, True, False), [triangle, Grid.unit]),
    ("Spans", "half"): (lambda: Spans(True, False, True, False), []),
    ("Spans", "faulty"): (lambda: Spans(True, True, True, False), []),
    ("Moves", "behind"): (lambda: Moves(net(), menu()), [lambda: (0,)]),
    ("Moves", "good"): (lambda: Moves(net(), menu()), [half, samples]),
    ("Moves", "least"): (lambda: Moves(net(), menu()), [half, samples]),
    ("Moves", "faults"): (lambda: Moves(net(), menu()), [half, samples, lambda: ()]),
    ("History", "move"): (history, [lambda: 0, lambda: (7, 7)]),
    ("History", "undo"): (history, [lambda: 1]),
    ("History", "redo"): (history, [lambda: 1]),
    ("History", "turn"): (history, [lambda: "a"]),
    ("History", "keep"): (history, [lambda: "b"]),
    ("History", "moves"): (history, []),
    ("History", "kept"): (history, []),
    ("History", "net_now"): (history, []),
    ("Trial", "hold_fast"): (lambda: Trial(history()), []),
    ("Console", "execute"): (lambda: Console(net(), half()), [lambda: "move 0 1 1"]),
}

CHANGING = {"set_part", "move", "undo", "redo", "turn", "keep", "hold_fast", "execute"}


def names_of(call, many):
    found = [name for name in inspect.signature(call).parameters if name != "self"]
    return found[:many]


def every_call():
    """Makers: each gives a call that is ready, the arguments that it takes, and the object, if there is one."""
    for (module, name), makers in CALLS.items():
        yield name, lambda module=module, name=name: (getattr(module, name), None), makers
    for (kind, name), (maker, makers) in METHOD_CALLS.items():
        def ready(maker=maker, name=name):
            made = maker()
            return getattr(made, name), made
        yield name, ready, makers


def lists_in(thing):
    """All lists in an answer."""
    found = [thing] if isinstance(thing, list) else []
    if isinstance(thing, (list, tuple)):
        for part in thing:
            found += lists_in(part)
    return found


class InterfaceTest(Case):
    def test_each_function_class_and_method_is_called_here(self):
        functions = {(file, name) for file in FUNCTIONS for name in FUNCTIONS[file]}
        classes = {(file, name) for file in METHODS for name in METHODS[file] if name != "Rule"}
        self.assertEqual({(module.__name__.split(".")[1], name) for module, name in CALLS}, functions | classes)
        methods = {(name, method) for file in METHODS for name in METHODS[file] for method in METHODS[file][name]
                   if not method.startswith("__")}
        self.assertEqual(set(METHOD_CALLS), methods)


class PassedTest(Case):
    def test_by_position_and_by_name(self):
        for name, ready, makers in every_call():
            with self.subTest(name=name):
                call, made = ready()
                found = plain(call(*[maker() for maker in makers]))
                call, other = ready()
                named = dict(zip(names_of(call, len(makers)), [maker() for maker in makers]))
                self.assertEqual(len(named), len(makers))
                self.assertEqual(plain(call(**dict(reversed(named.items())))), found)
                self.assertEqual(plain(made), plain(other))

    def test_equal_calls_give_equal_answers(self):
        for name, ready, makers in every_call():
            if name not in CHANGING:
                with self.subTest(name=name):
                    call, made = ready()
                    passed = [maker() for maker in makers]
                    self.assertEqual(plain(call(*passed)), plain(call(*passed)))

    def test_nothing_that_is_passed_changes(self):
        for name, ready, makers in every_call():
            with self.subTest(name=name):
                call, made = ready()
                passed = [maker() for maker in makers]
                before = [plain(thing) for thing in passed]
                plain(call(*passed))
                if name not in CHANGING:
                    self.assertEqual([plain(thing) for thing in passed], before)

    def test_no_object_changes_that_is_only_asked(self):
        for name, ready, makers in every_call():
            if name not in CHANGING:
                with self.subTest(name=name):
                    call, made = ready()
                    before = plain(made)
                    plain(call(*[maker() for maker in makers]))
                    self.assertEqual(plain(made), before)

    def test_lists_that_are_passed_are_not_kept(self):
        for name, ready, makers in every_call():
            call, made = ready()
            passed = [maker() for maker in makers]
            found = call(*passed)
            if inspect.isgenerator(found) or not lists_in(passed):
                continue
            with self.subTest(name=name):
                before = plain(found)
                for thing in lists_in(passed):
                    thing.clear()
                    thing.append(None)
                self.assertEqual(plain(found), before)

    def test_lists_that_are_returned_are_new(self):
        for name, ready, makers in every_call():
            if name in CHANGING:
                continue
            call, made = ready()
            passed = [maker() for maker in makers]
            found = call(*passed)
            if not lists_in(found):
                continue
            with self.subTest(name=name):
                before = plain(found)
                for thing in lists_in(found):
                    thing.clear()
                    thing.append(None)
                self.assertEqual(plain(call(*passed)), before)

    def test_nets_that_are_copied(self):
        for maker in [History, lambda given: Moves(given, menu()), lambda given: Console(given, half()),
                      lambda given: given.twin()]:
            given = net()
            made = maker(given)
            before = plain(made)
            given[0] = (50, 50)
            given[1] = (60, 60)
            self.assertEqual(plain(made), before)

    def test_points_that_are_returned_are_of_the_class(self):
        for found in [points.quarter((1, 2)), directions.lowest((2, 4)), half().way, triangle().corners()[0],
                      triangle().edges()[0][0], samples().points()[0], net()[0], net().points()[0],
                      Ring([A]).points()[0], history().move(0, (1, 2)), history().moves()[0][1],
                      papers.paper_of(half(), mesh(), samples())[0][0], Moves(net(), menu()).behind((0,))[3],
                      spans.Spans(True, True, True, True).faulty()[1], shifts.shift_of(half())[1]]:
            self.assertIs(type(found), Point)


class EqualityTest(Case):
    def test_no_object_equals_one_of_another_class(self):
        made = [Point(1, 2), Table(TRUTHS), half(), triangle(), Grid.unit(), samples(), mesh(), net(), Ring([A, B, C]),
                Spans(True, False, True, False), Moves(net(), menu()), history(), Trial(history()),
                Console(net(), half())]
        for one, other in itertools.combinations(made, 2):
            self.assert_unlike_both_ways(one, other)
        for one in made:
            self.assertIs(one == one, True)
            for other in [None, True, 0, "", (), [], {}, (1, 2), [1, 2], TRUTHS, plain(one)]:
                self.assert_unlike_both_ways(one, other)


def net_with(**wrong):
    return lambda: Net(**{"points": [A, B, C], "triples": [(0, 1, 2)], **wrong})


# A call for each error, and the attributes of what it raises.
RAISED = {
    "InvalidPoint": (lambda: points.side(A, "b", None), {"thing": "b"}),
    "InvalidNumber": (lambda: nets.snapped(net(), 0), {"number": 0}),
    "NoDirection": (lambda: directions.kind_of((0, 0)), {"thing": (0, 0)}),
    "InvalidTable": (lambda: Table([1, 2]), {"thing": [1, 2]}),
    "InvalidHalf": (lambda: Half((0, 0), 1), {"part": "way"}),
    "Flat": (lambda: Triangle(A, (1, 0), B), {"three": (Point(0, 0), Point(1, 0), Point(4, 0))}),
    "InvalidGrid": (lambda: Grid(0, None), {"part": "step"}),
    "InvalidSamples": (lambda: Samples([A, None, 1]), {"number": 1}),
    "InvalidMesh": (lambda: Mesh([triangle(), triangle(), None]), {"number": 2}),
    "Overlap": (lambda: Mesh([Triangle(B, D, C), triangle(), triangle()]), {"number": 2, "other": 1}),
    "InvalidNet": (net_with(triples=[(0, 1, 2), (0, 0, 1)]), {"part": "triples", "number": 1}),
    "InvalidWays": (lambda: nets.turns(half(), [(A, B), A], (0, 0)), {"number": 1}),
    "InvalidRing": (lambda: Ring([]), {"number": None}),
    "InvalidSpans": (lambda: Spans(True, 1, 0, None), {"part": "right"}),
    "InvalidValues": (lambda: values.value_at(triangle(), [1, True, None], A), {"number": 1}),
    "InvalidPaper": (lambda: papers.check(half(), mesh(), samples(), [((1, 1), 2)]), {"number": 0}),
    "NotShown": (lambda: papers.check(half(), mesh(), samples(), []), {"point": Point(1, 1)}),
    "InvalidMenu": (lambda: Moves(net(), [(0, A), (0, None)]), {"number": 1}),
    "UnknownSet": (lambda: Moves(net(), menu()).behind((1, 0)), {"picks": (1, 0)}),
    "NothingLeft": (lambda: history().undo(9), {"many": 9}),
    "InvalidName": (lambda: history().keep("A"), {"name": "A"}),
    "UnknownName": (lambda: history().turn("b"), {"name": "b"}),
    "InvalidCall": (lambda: histories.tried(history(), [("undo", 1), ("go", 1)]), {"call": ("go", 1)}),
    "InvalidCommand": (lambda: Console(net(), half()).execute("go"), {"row": "go"}),
}


class ErrorsTest(Case):
    def test_each_is_raised_with_its_attributes(self):
        self.assertEqual(set(RAISED), set(PARAMETERS))
        for name, (call, attributes) in RAISED.items():
            with self.subTest(name=name):
                found = self.refused(getattr(errors, name), call)
                self.assertIsInstance(found, errors.FillError)
                self.assertIsInstance(found, ValueError)
                self.assertEqual({part: getattr(found, part) for part in PARAMETERS[name]}, attributes)

    def test_none_is_caught_by_another_one(self):
        kinds = [getattr(errors, name) for name in PARAMETERS]
        for one, other in itertools.permutations(kinds, 2):
            self.assertFalse(issubclass(one, other))

    def test_they_keep_what_was_passed(self):
        thing = [1, 2]
        for error, part, call in [
                (errors.InvalidPoint, "thing", lambda: points.quarter(thing)),
                (errors.InvalidTable, "thing", lambda: Table(thing)),
                (errors.InvalidNumber, "number", lambda: net()[thing]),
                (errors.UnknownSet, "picks", lambda: Moves(net(), menu()).behind(thing)),
                (errors.NothingLeft, "many", lambda: history().redo(thing)),
                (errors.InvalidName, "name", lambda: history().keep(thing)),
                (errors.UnknownName, "name", lambda: history().turn(thing)),
                (errors.InvalidCall, "call", lambda: histories.tried(history(), [thing])),
                (errors.InvalidCommand, "row", lambda: Console(net(), half()).execute(thing))]:
            self.assertIs(getattr(self.refused(error, call), part), thing)

    def test_the_error_that_is_described_first(self):
        for error, part, worth, call in [
                (errors.InvalidPoint, "thing", (1, None), lambda: Point(1, None)),
                (errors.InvalidPoint, "thing", None, lambda: Triangle(A, None, 5)),
                (errors.InvalidHalf, "part", "way", lambda: Half(None, None)),
                (errors.InvalidGrid, "part", "step", lambda: Grid(None, None)),
                (errors.InvalidNumber, "number", 8, lambda: Table(TRUTHS).__setitem__(8, None)),
                (errors.InvalidNumber, "number", 2, lambda: mesh().__setitem__(2, None)),
                (errors.InvalidNumber, "number", 9, lambda: net().__setitem__(9, None)),
                (errors.InvalidMesh, "number", 1, lambda: mesh().__setitem__(1, None)),
                (errors.InvalidMesh, "number", 2, lambda: Mesh([triangle(), triangle(), None])),
                (errors.InvalidNet, "part", "points", lambda: Net([None], None)),
                (errors.InvalidPoint, "thing", None, lambda: nets.turns(half(), None, None)),
                (errors.InvalidPoint, "thing", None, lambda: shifts.owns_shifted(half(), triangle(), None, 0)),
                (errors.InvalidSpans, "part", "left", lambda: Spans(None, 1, 2, 3)),
                (errors.InvalidNumber, "number", -1, lambda: counting.floor_sum(-1, None, None, 0)),
                (errors.InvalidNumber, "number", "l",
                 lambda: counting.amount(half(), triangle(), Grid.unit(), high="h", low="l")),
                (errors.InvalidNumber, "number", "n", lambda: bits.wrapped("n", 0)),
                (errors.InvalidPoint, "thing", "p", lambda: values.value_at(triangle(), None, "p")),
                (errors.InvalidPaper, "number", 1,
                 lambda: papers.check(half(), mesh(), samples(), [((1, 1), 1), None])),
                (errors.InvalidNumber, "number", 4, lambda: history().move(4, None))]:
            self.assertEqual(getattr(self.refused(error, call), part), worth)

    def test_a_call_that_raises_changes_nothing(self):
        table, given, web, made, past = Table(TRUTHS), half(), net(), mesh(), history()
        choice, console = Moves(net(), menu()), Console(net(), half())
        everything = [table, given, web, made, past, choice, console]
        before = plain(everything)
        wrong = [
            lambda: table.__setitem__(0, 1), lambda: table.__setitem__(8, True), lambda: setattr(given, "way", (0, 0)),
            lambda: setattr(given, "ahead", 1), lambda: rules.set_part(given, "way", None),
            lambda: rules.set_part(given, "odd", True), lambda: web.__setitem__(0, None),
            lambda: web.__setitem__(4, (1, 1)), lambda: made.__setitem__(0, None),
            lambda: made.__setitem__(0, Triangle(B, D, C)), lambda: made.__setitem__(5, triangle()),
            lambda: past.move(0, None), lambda: past.move(None, (1, 1)), lambda: past.undo(2), lambda: past.redo(2),
            lambda: past.keep("A"), lambda: past.turn("b"),
            lambda: histories.tried(past, [("redo", 1), ("keep", "a"), ("move", 0, None)], fast=True),
            lambda: choice.behind((0, 0)), lambda: choice.faults(half(), samples(), None),
            lambda: console.execute("undo 1"), lambda: console.execute("move 0 1"), lambda: console.execute("turn a"),
            lambda: console.execute("move 7 1 1")]
        for call in wrong:
            with self.assertRaises(errors.FillError):
                call()
            self.assertEqual(plain(everything), before)

    def test_a_generator_raises_when_it_begins(self):
        found = Grid.unit().between(A, None)
        with self.assertRaises(errors.InvalidPoint):
            next(found)


class OneOwnerTest(Case):
    """0.1: the parts of the program agree with one another."""

    def test_amounts_papers_and_nets_agree_on_a_mesh(self):
        given, web, every = mesh(), net(), Samples(list(Grid.unit().between((-1, -1), (5, 5))))
        for rule in [Half(way, ahead) for way in [(1, 0), (0, 1), (-1, 0), (0, -1), (3, 2)] for ahead in [True, False]]:
            parts = [grids.owned(rule, piece, Grid.unit()) for piece in given.triangles()]
            self.assertEqual([counting.amount(rule, piece, Grid.unit()) for piece in given.triangles()],
                             [len(part) for part in parts])
            self.assertEqual(len(parts[0] & parts[1]), 0)
            ring = Ring([A, B, D, C])
            self.assertEqual(rings.filled(rule, ring, Grid.unit()), parts[0] | parts[1])
            self.assertIs(moves.is_clean(rule, web, every), True)
            self.assertEqual(papers.check(rule, given, every, papers.paper_of(rule, given, every)), 9)
            for point in every.points():
                self.assertEqual(nets.signed(rule, web, point), ring.turns(rule, point))
                self.assertEqual(nets.signed(rule, web, point), 1 if point in parts[0] | parts[1] else 0)

    def test_any_size(self):
        big = Triangle((-GREAT, -GREAT), (GREAT, -GREAT), (0, GREAT))
        for spread in [Spans(True, False, True, False), Spans(False, True, False, True)]:
            for point in [(0, GREAT), (-GREAT, -GREAT), (GREAT, -GREAT), (0, 0), (0, -GREAT)]:
                self.assertIs(spread.takes(big, point), triangles.owns(spread.half(), big, point))


if __name__ == "__main__":
    unittest.main()
