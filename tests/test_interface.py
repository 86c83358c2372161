"""What the head of the interface says of the modules that have landed."""

import inspect
import unittest

from modesdown import changes, errors, modes
from modesdown.changes import Change, Clause, parting
from modesdown.modes import Mode

# By class: the names that stand in its own body, by how they are read.
PROPERTIES = {"Mode": ("number", "digits"), "Clause": ("who", "sign", "what"), "Change": ("clauses", "tables")}
STATIC = {"Mode": ("of", "uniform"), "Clause": (), "Change": ("setting",)}
OF_CLASS = {"Mode": ("read",), "Clause": ("read",), "Change": ("read",)}
METHODS = {
    "Mode": (
        "pattern", "with_pattern", "__or__", "__ror__", "__and__", "__rand__", "__xor__", "__rxor__", "__invert__",
        "__contains__", "__len__", "__bool__", "__eq__", "__str__", "__repr__",
    ),
    "Clause": ("__call__", "__str__", "__eq__"),
    "Change": ("__call__", "__mul__", "like", "cycle", "__str__", "__eq__"),
}
PARAMETERS = (
    (Mode, ["number"]), (Mode.read, ["text"]), (Mode.of, ["owner", "group", "others"]), (Mode.uniform, ["pattern"]),
    (Mode(0).pattern, ["letter"]), (Mode(0).with_pattern, ["letter", "pattern"]),
    (Clause, ["who", "sign", "what"]), (Clause.read, ["text"]), (Clause("u", "+", "r"), ["mode", "form"]),
    (Change, ["clauses"]), (Change.read, ["text"]), (Change.setting, ["mode"]),
    (Change.read("u+r"), ["mode", "form"]), (Change.read("u+r").like, ["other"]), (Change.read("u+r").cycle, ["form"]),
    (parting, ["one", "other"]),
)


class Interface(unittest.TestCase):
    def test_defined_where_they_are_listed(self):
        self.assertEqual(Mode.__module__, "modesdown.modes")
        for listed in (Clause, Change, parting):
            self.assertEqual(listed.__module__, "modesdown.changes")
        for module in (errors, modes, changes):
            for name, value in vars(module).items():
                if inspect.isclass(value) and value.__module__ == module.__name__:
                    self.assertEqual(value.__qualname__, name)

    def test_names_stand_in_the_class_itself(self):
        for one in (Mode, Clause, Change):
            own = vars(one)
            name = one.__name__
            for told in PROPERTIES[name]:
                self.assertIsInstance(own[told], property, (name, told))
            for told in STATIC[name]:
                self.assertIsInstance(own[told], staticmethod, (name, told))
            for told in OF_CLASS[name]:
                self.assertIsInstance(own[told], classmethod, (name, told))
            for told in METHODS[name]:
                self.assertTrue(inspect.isfunction(own[told]), (name, told))
        self.assertIn("MOST", vars(Mode))
        self.assertIn("MOST", vars(Change))

    def test_parameters(self):
        for call, names in PARAMETERS:
            self.assertEqual(list(inspect.signature(call).parameters), names, call)

    def test_errors_set_their_fields_in_their_own_body(self):
        for name, value in vars(errors).items():
            if inspect.isclass(value) and name not in ("ModesError", "BadInput", "NoWay"):
                self.assertIn("__init__", vars(value), name)


if __name__ == "__main__":
    unittest.main()
