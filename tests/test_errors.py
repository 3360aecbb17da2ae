"""0.2 and 0.4: the errors stand side by side and keep what was passed."""

import inspect
import unittest

from filledonce import errors
from filledonce.errors import FillError

PARAMETERS = {
    "InvalidPoint": ["thing"],
    "InvalidNumber": ["number"],
    "NoDirection": ["thing"],
    "InvalidTable": ["thing"],
    "InvalidHalf": ["part"],
    "Flat": ["three"],
    "InvalidGrid": ["part"],
    "InvalidSamples": ["number"],
    "InvalidMesh": ["number"],
    "Overlap": ["number", "other"],
    "InvalidNet": ["part", "number"],
    "InvalidWays": ["number"],
    "InvalidRing": ["number"],
    "InvalidSpans": ["part"],
    "InvalidValues": ["number"],
    "InvalidPaper": ["number"],
    "NotShown": ["point"],
    "InvalidMenu": ["number"],
    "UnknownSet": ["picks"],
    "NothingLeft": ["many"],
    "InvalidName": ["name"],
    "UnknownName": ["name"],
    "InvalidCall": ["call"],
    "InvalidCommand": ["row"],
}


def error_classes():
    return [(getattr(errors, name), names) for name, names in PARAMETERS.items()]


class ErrorsTest(unittest.TestCase):
    def test_the_base_is_a_value_error(self):
        self.assertEqual(FillError.__bases__, (ValueError,))
        self.assertEqual(FillError.__module__, "filledonce.errors")

    def test_the_module_has_these_errors_and_no_other(self):
        found = [name for name, value in vars(errors).items() if inspect.isclass(value)]
        self.assertEqual(sorted(found), sorted([*PARAMETERS, "FillError"]))

    def test_each_is_a_fill_error_and_none_is_another_one(self):
        for error, _ in error_classes():
            with self.subTest(error.__name__):
                self.assertEqual(error.__bases__, (FillError,))
                self.assertTrue(issubclass(error, ValueError))
                self.assertEqual(error.__module__, "filledonce.errors")

    def test_parameters_by_position_are_attributes(self):
        for error, names in error_classes():
            with self.subTest(error.__name__):
                passed = [[at] for at in range(len(names))]
                made = error(*passed)
                for name, thing in zip(names, passed):
                    self.assertIs(getattr(made, name), thing)

    def test_parameters_by_name_are_attributes(self):
        for error, names in error_classes():
            with self.subTest(error.__name__):
                passed = {name: [name] for name in reversed(names)}
                made = error(**passed)
                for name in names:
                    self.assertIs(getattr(made, name), passed[name])

    def test_every_parameter_is_needed_and_no_more(self):
        for error, names in error_classes():
            with self.subTest(error.__name__):
                self.assertRaises(TypeError, error, *names[1:])
                self.assertRaises(TypeError, error, *names, 1)
                self.assertEqual(list(inspect.signature(error).parameters), names)

    def test_they_are_raised_and_caught_by_the_base(self):
        for error, names in error_classes():
            with self.subTest(error.__name__):
                with self.assertRaises(FillError) as caught:
                    raise error(*names)
                self.assertIs(type(caught.exception), error)

    def test_a_message_can_be_written_whatever_was_passed(self):
        long = 10 ** 6000
        for error, names in error_classes():
            with self.subTest(error.__name__):
                self.assertNotEqual(str(error(*[long for _ in names])), "")


if __name__ == "__main__":
    unittest.main()
