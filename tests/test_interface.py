"""The interface: each name stands in its own file, with the parameters of the document."""

import importlib
import inspect
import unittest

FUNCTIONS = {
    "points": {"side": "a, b, point", "quarter": "point"},
    "directions": {"kind_of": "direction", "lowest": "direction", "sorted_around": "directions"},
    "rules": {"all_tables": "", "set_part": "half, part, thing", "table_of": "half", "half_of": "table"},
    "triangles": {"owns": "rule, triangle, point", "apart": "one, other"},
    "grids": {"owned": "rule, triangle, grid"},
    "shifts": {"shift_of": "half", "owns_shifted": "half, triangle, point, scale",
               "scale_for": "half, triangle, point"},
    "meshes": {"inside": "mesh, point", "owners": "rule, mesh, point", "judged": "rule, mesh, grid"},
    "witnesses": {"is_right": "rule", "shows": "rule, mesh, point", "faulty": "rule"},
    "nets": {"signed": "half, net, point", "turns": "half, ways, point", "rim_turns": "half, net, point",
             "counted_owners": "half, net, point", "snapped": "net, many", "unlike": "half, one, other, grid"},
    "rings": {"filled": "half, ring, grid, *, odd=False"},
    "counting": {"floor_sum": "many, top, add, bottom", "amount": "rule, triangle, grid, *, low=None, high=None",
                 "twin_of": "triangle"},
    "bits": {"wrapped": "number, bits", "least_bits": "most", "shows_bits": "most"},
    "values": {"weights": "triangle, point", "value_at": "triangle, values, point"},
    "papers": {"check": "rule, mesh, samples, paper", "paper_of": "rule, mesh, samples"},
    "moves": {"is_clean": "half, net, samples"},
    "histories": {"tried": "history, calls, *, fast=False"},
}

METHODS = {
    "points": {"Point": {"__init__": "x, y", "__add__": None, "__sub__": None, "__mul__": None, "__eq__": None,
                         "pair": "", "cross": "other"}},
    "rules": {"Rule": {"__call__": "direction", "__le__": None},
              "Table": {"__init__": "kinds", "kinds": "", "__len__": None, "__getitem__": None, "__setitem__": None,
                        "__invert__": None, "__eq__": None},
              "Half": {"__init__": "way, ahead", "twin": "", "__eq__": None}},
    "triangles": {"Triangle": {"__init__": "a, b, c", "corners": "", "edges": "", "moved": "by",
                               "__contains__": None, "__eq__": None}},
    "grids": {"Grid": {"__init__": "step, at", "between": "low, high", "__contains__": None, "__eq__": None},
              "Samples": {"__init__": "points", "points": "", "__len__": None, "__contains__": None, "__or__": None,
                          "__and__": None, "__sub__": None, "__le__": None, "__eq__": None}},
    "meshes": {"Mesh": {"__init__": "triangles", "triangles": "", "__len__": None, "__getitem__": None,
                        "__setitem__": None, "__eq__": None}},
    "nets": {"Net": {"__init__": "points, triples", "points": "", "triples": "", "rim": "", "twin": "",
                     "__len__": None, "__getitem__": None, "__setitem__": None, "__eq__": None}},
    "rings": {"Ring": {"__init__": "points", "points": "", "ways": "", "turned": "", "turns": "half, point",
                       "fan": "point", "__len__": None, "__eq__": None}},
    "spans": {"Spans": {"__init__": "left, right, bottom, top", "takes": "triangle, point", "filled": "triangle, grid",
                        "half": "", "faulty": "", "__eq__": None}},
    "moves": {"Moves": {"__init__": "net, menu", "behind": "picks", "good": "half, samples", "least": "half, samples",
                        "faults": "half, samples, picks", "__len__": None}},
    "histories": {"History": {"__init__": "net", "move": "index, point", "undo": "many", "redo": "many",
                              "turn": "name", "keep": "name", "moves": "", "kept": "", "net_now": "", "__len__": None},
                  "Trial": {"__init__": "history", "__enter__": "", "__exit__": None, "hold_fast": ""}},
    "consoles": {"Console": {"__init__": "net, half", "execute": "row"}},
}

STATIC = [("points", "Point", "origin"), ("rules", "Table", "nothing"), ("grids", "Grid", "unit")]

PROPERTIES = [("rules", "Half", "way", True), ("rules", "Half", "ahead", True),
              ("triangles", "Triangle", "area2", False), ("rings", "Ring", "area2", False),
              ("spans", "Spans", "is_right", False)]

GENERATORS = [("rules", "all_tables"), ("grids", "Grid.between"), ("moves", "Moves.good")]


def module_of(name):
    return importlib.import_module("filledonce." + name)


def parameters(call):
    """As the document writes them."""
    return str(inspect.signature(call))[1:-1]


class InterfaceTest(unittest.TestCase):
    def test_functions(self):
        for file, functions in FUNCTIONS.items():
            for name, told in functions.items():
                with self.subTest(file=file, name=name):
                    call = getattr(module_of(file), name)
                    self.assertTrue(inspect.isfunction(call))
                    self.assertEqual(call.__module__, "filledonce." + file)
                    self.assertEqual(parameters(call), told)

    def test_methods_stand_in_the_class_itself(self):
        for file, classes in METHODS.items():
            for name, methods in classes.items():
                found = getattr(module_of(file), name)
                self.assertEqual(found.__module__, "filledonce." + file)
                for method, told in methods.items():
                    with self.subTest(file=file, name=name, method=method):
                        self.assertIn(method, vars(found))
                        if told is not None:
                            self.assertEqual(parameters(vars(found)[method]), f"self, {told}".rstrip(", "))

    def test_static_methods(self):
        for file, name, method in STATIC:
            with self.subTest(name=name, method=method):
                self.assertIsInstance(vars(getattr(module_of(file), name))[method], staticmethod)

    def test_properties(self):
        for file, name, told, can_be_set in PROPERTIES:
            with self.subTest(name=name, told=told):
                found = vars(getattr(module_of(file), name))[told]
                self.assertIsInstance(found, property)
                self.assertIs(found.fset is not None, can_be_set)

    def test_generators(self):
        for file, path in GENERATORS:
            with self.subTest(path=path):
                found = module_of(file)
                for name in path.split("."):
                    found = getattr(found, name)
                self.assertTrue(inspect.isgeneratorfunction(found))

    def test_rules_are_of_one_class(self):
        rules = module_of("rules")
        self.assertEqual(rules.Table.__bases__, (rules.Rule,))
        self.assertEqual(rules.Half.__bases__, (rules.Rule,))


if __name__ == "__main__":
    unittest.main()
