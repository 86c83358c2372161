"""Point 2 and the heading modesdown/errors.py."""

import inspect
import unittest

from modesdown import errors
from modesdown.errors import BadInput, ModesError, NoWay
from tests.samples import any_values, same

# Name of the class, its base, its fields in order.
TOLD = [
    ("BadMode", BadInput, ("part",)),
    ("BadClause", BadInput, ("at",)),
    ("BadName", BadInput, ("name",)),
    ("BadPath", BadInput, ("path",)),
    ("BadUser", BadInput, ("part",)),
    ("BadCommand", BadInput, ("part",)),
    ("BadKind", BadInput, ("at",)),
    ("BadStand", BadInput, ("index",)),
    ("BadBeat", BadInput, ("part",)),
    ("BadText", BadInput, ("line", "word")),
    ("NoEntry", NoWay, ("path",)),
    ("NoCommand", NoWay, ("index",)),
    ("NoStand", NoWay, ("joint",)),
    ("TooMany", NoWay, ("most",)),
    ("NoKind", NoWay, ()),
]


def classes():
    """All classes that the module has, with their names."""
    return {name: value for name, value in vars(errors).items() if inspect.isclass(value)}


class Errors(unittest.TestCase):
    def test_there_are_these_classes_and_no_others(self):
        names = {"ModesError", "BadInput", "NoWay"} | {name for name, base, fields in TOLD}
        self.assertEqual(len(TOLD), 15)
        self.assertEqual(set(classes()), names)
        for name, value in classes().items():
            self.assertEqual((value.__name__, value.__module__), (name, "modesdown.errors"))

    def test_bases(self):
        self.assertEqual(ModesError.__bases__, (ValueError,))
        self.assertEqual(BadInput.__bases__, (ModesError,))
        self.assertEqual(NoWay.__bases__, (ModesError,))
        for name, base, fields in TOLD:
            with self.subTest(name):
                self.assertEqual(getattr(errors, name).__bases__, (base,))

    def test_fields_by_place(self):
        for name, base, fields in TOLD:
            values = list(range(10, 10 + len(fields)))
            error = getattr(errors, name)(*values)
            with self.subTest(name):
                self.assertEqual([getattr(error, field) for field in fields], values)
                self.assertEqual(vars(error), dict(zip(fields, values)))

    def test_fields_by_name(self):
        for name, base, fields in TOLD:
            told = {field: [field] for field in reversed(fields)}
            error = getattr(errors, name)(**told)
            with self.subTest(name):
                for field in fields:
                    self.assertIs(getattr(error, field), told[field])
                self.assertEqual(vars(error), told)

    def test_fields_hold_any_value(self):
        for name, base, fields in TOLD:
            for value in any_values():
                error = getattr(errors, name)(*[value for field in fields])
                for field in fields:
                    self.assertIs(getattr(error, field), value)

    def test_other_numbers_of_fields(self):
        for name, base, fields in TOLD:
            with self.subTest(name):
                with self.assertRaises(TypeError):
                    getattr(errors, name)(*range(len(fields) + 1))
                if fields:
                    with self.assertRaises(TypeError):
                        getattr(errors, name)(*range(len(fields) - 1))
                with self.assertRaises(TypeError):
                    getattr(errors, name)(*range(len(fields)), other=1)

    def test_of_no_other_class_of_the_package(self):
        for name, base, fields in TOLD:
            error = getattr(errors, name)(*fields)
            with self.subTest(name):
                self.assertIsInstance(error, ModesError)
                self.assertIsInstance(error, ValueError)
                found = {other for other, value in classes().items() if isinstance(error, value)}
                self.assertEqual(found, {name, base.__name__, "ModesError"})

    def test_raised_and_caught(self):
        for name, base, fields in TOLD:
            one = getattr(errors, name)
            for caught in (one, base, ModesError, ValueError):
                with self.subTest(name, caught=caught):
                    with self.assertRaises(caught) as held:
                        raise one(*fields)
                    self.assertIs(type(held.exception), one)
                    self.assertTrue(same([getattr(held.exception, field) for field in fields], list(fields)))

    def test_a_bad_input_is_no_no_way(self):
        for name, base, fields in TOLD:
            error = getattr(errors, name)(*fields)
            self.assertEqual(isinstance(error, BadInput), name.startswith("Bad"))
            self.assertEqual(isinstance(error, NoWay), not name.startswith("Bad"))


if __name__ == "__main__":
    unittest.main()
