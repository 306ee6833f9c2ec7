"""Point [2]: the errors and their attributes."""

import unittest

from fewserve import errors
from fewserve.errors import ServeError

ARGUMENTS = {
    "NoInverse": ["number"],
    "BadTable": [],
    "BadSize": ["size"],
    "BadLot": ["lot"],
    "BadAsk": ["ask"],
    "BadText": ["line"],
    "BadWedge": [],
    "DependentRow": [],
    "UnknownItem": ["item"],
    "BadWeb": [],
    "BadDeed": ["deed"],
}


class Errors(unittest.TestCase):
    def test_base_classes(self):
        self.assertEqual(ServeError.__bases__, (ValueError,))
        for name in ARGUMENTS:
            self.assertEqual(getattr(errors, name).__bases__, (ServeError,), name)

    def test_all_classes_are_listed(self):
        found = [name for name, value in vars(errors).items() if isinstance(value, type)]
        self.assertEqual(sorted(found), sorted([*ARGUMENTS, "ServeError"]))

    def test_attributes(self):
        for name, arguments in ARGUMENTS.items():
            for value in (3, -(10 ** 5000), (0, 1), "a line", None):
                error = getattr(errors, name)(*[value for _ in arguments])
                self.assertEqual(vars(error), {argument: value for argument in arguments}, name)
                self.assertIsInstance(str(error), str)

    def test_attributes_by_name(self):
        for name, arguments in ARGUMENTS.items():
            error = getattr(errors, name)(**{argument: (7,) for argument in arguments})
            self.assertEqual(vars(error), {argument: (7,) for argument in arguments})

    def test_number_of_arguments(self):
        for name, arguments in ARGUMENTS.items():
            if arguments:
                self.assertRaises(TypeError, getattr(errors, name))


if __name__ == "__main__":
    unittest.main()
