"""What the head of the interface says of all modules."""

import importlib
import inspect
import unittest

from modesdown import errors

# By module: the functions that it defines, and by class how each of its names is read.
FUNCTIONS = {
    "changes": {"parting": ["one", "other"]},
    "words": {
        "stand_of": ["row", "tree", "path"], "word_of": ["row", "tree", "path"], "words": ["row", "tree"],
        "reckoned": ["row", "tree"], "behind": ["row", "stand", "entry"],
    },
    "foldertypes": {"spare": ["names"], "folder_types": ["kind", "rows"]},
    "stands": {
        "agree": ["kind", "one", "other", "joint", "form", "mask"], "is_below": ["kind", "one", "other", "joint", "form", "mask"],
    },
    "alike": {
        "alike": ["one", "other", "kind", "mask", "most"], "at_most": ["one", "other", "kind", "mask", "most"],
        "needless": ["row", "index", "kind", "mask", "most"], "exchanged": ["row", "index", "kind", "mask", "most"],
    },
    "lasting": {
        "never_lost": ["row", "kind", "most"], "ends_in": ["row", "goal", "kind", "most"],
        "settles": ["row", "rounds", "kind", "most"],
    },
    "waves": {
        "fed": ["row", "block", "words"], "wave": ["row", "kind", "deep"], "shows_wave": ["row", "kind", "thing"],
        "wave_chain": ["block", "entry", "times"],
    },
    "far": {
        "beats": ["tree", "command", "path"], "comings": ["tree", "command", "path", "rounds"],
        "round_of": ["tree", "command", "path", "k"], "far": ["tree", "command", "rounds"],
        "far_mode": ["tree", "command", "path", "rounds"],
        "shows_comings": ["tree", "command", "path", "steps", "rounds", "number"],
    },
    "back": {"leads_back": ["row", "more", "command", "kind", "most"], "least_row": ["menu", "asks", "longest"]},
    "helps": {
        "findings": ["tree", "user"], "helped": ["tree", "user", "helpers"], "fewest_helpers": ["tree", "user", "path", "helpers"],
        "shows_help": ["tree", "user", "helpers", "paths", "commands", "bars"],
    },
    "lookers": {
        "is_closed": ["kind", "rows", "listed"], "is_chain": ["kind", "chain"],
        "shows_alike": ["one", "other", "paper", "kind", "mask"], "shows_at_most": ["one", "other", "paper", "kind", "mask"],
        "shows_needless": ["row", "index", "paper", "kind", "mask"], "shows_exchanged": ["row", "index", "paper", "kind", "mask"],
        "shows_never_lost": ["row", "paper", "kind"], "shows_ends_in": ["row", "goal", "paper", "kind"],
        "shows_led_back": ["row", "more", "command", "paper", "kind"],
    },
    "texts": {
        "write_tree": ["tree"], "write_row": ["row"], "write_kind": ["kind"], "read_tree": ["text"], "read_row": ["text"],
        "read_kind": ["text"], "report": ["row", "kind"],
    },
}
MADE = {
    "modes": {"Mode": ["number"]},
    "changes": {"Clause": ["who", "sign", "what"], "Change": ["clauses"]},
    "users": {"User": ["name", "groups"], "Chief": ["name", "groups"]},
    "trees": {
        "Entry": None, "Holder": None, "File": ["mode", "owner", "group"], "Folder": ["mode", "owner", "group", "children"],
        "Tree": ["top"],
    },
    "commands": {"Command": ["user", "change", "order", "kinds", "start"], "Row": ["commands"]},
    "words": {"Passage": ["row", "stand", "mode", "owner", "group"]},
    "kinds": {"Line": ["form", "owners", "groups", "must", "never"], "Kind": ["lines"]},
    "foldertypes": {"FolderType": ["owner", "group", "mode"]},
    "stands": {"Stands": ["kind", "rows", "most"]},
    "alike": {"Verdict": None, "Held": ["listed"], "Parted": ["chain"]}, "far": {"Beat": ["lead", "period", "answers"]},
    "helps": {"Help": None}, "desk": {"Desk": ["tree"]},
}
PROPERTIES = {
    "Mode": ("number", "digits"), "Clause": ("who", "sign", "what"), "Change": ("clauses", "tables"), "User": ("name", "groups"),
    "Entry": ("mode", "owner", "group", "form"), "Command": ("user", "change", "order", "kinds", "start"),
    "Passage": ("after", "word", "ahead", "other"), "Line": ("form", "owners", "groups", "must", "never"), "Kind": ("lines",),
    "FolderType": ("owner", "group", "mode"), "Stands": ("listed", "told"), "Verdict": ("paper", "answer"), "Held": ("listed",),
    "Parted": ("chain",), "Beat": ("lead", "period", "answers"),
    "Help": ("paths", "commands", "bars"), "Desk": ("row", "kind"),
}
STATIC = {"Mode": {"of": ["owner", "group", "others"], "uniform": ["pattern"]}, "Change": {"setting": ["mode"]}}
OF_CLASS = {"Mode": {"read": ["text"]}, "Clause": {"read": ["text"]}, "Change": {"read": ["text"]}, "Tree": {"of": ["rows"]},
            "Kind": {"every": []}}
VALUES = {"Mode": ("MOST",), "Change": ("MOST",), "User": ("GROUPS",), "Tree": ("ENTRIES",), "Command": ("ORDERS", "KINDS"),
          "Row": ("MOST",), "Kind": ("MOST",), "Stands": ("MOST",)}
AT = ["mode", "owner", "group"]
# Operators have no parameters that are passed by name.
METHODS = {
    "Mode": {
        "pattern": ["letter"], "with_pattern": ["letter", "pattern"], "__or__": None, "__ror__": None, "__and__": None,
        "__rand__": None, "__xor__": None, "__rxor__": None, "__invert__": None, "__contains__": None, "__len__": None,
        "__bool__": None, "__eq__": None, "__str__": None, "__repr__": None,
    },
    "Clause": {"__call__": ["mode", "form"], "__str__": None, "__eq__": None},
    "Change": {
        "__call__": ["mode", "form"], "__mul__": None, "like": ["other"], "cycle": ["form"], "__str__": None, "__eq__": None,
    },
    "User": {"class_at": ["owner", "group"], "bits_at": AT, "passes": AT, "lists": AT, "may_change": ["owner"], "__eq__": None},
    "Chief": {"class_at": ["owner", "group"], "bits_at": AT, "passes": AT, "lists": AT, "may_change": ["owner"]},
    "Entry": {"set_mode": ["mode"], "copy": [], "__eq__": None},
    "Holder": {"names": [], "put": ["name", "entry"], "__contains__": None, "__getitem__": None, "__len__": None},
    "File": {"__init__": None}, "Folder": {"__init__": None},
    "Tree": {
        "__getitem__": None, "__setitem__": None, "__contains__": None, "entry": ["path"], "size": [], "__eq__": None,
        "copy": [], "entries": [], "rows": [], "put": ["path", "entry"], "__iadd__": None, "take_out": ["path"],
        "bar": ["user", "path"], "trial": [], "attempt": ["deed"],
    },
    "Command": {
        "means": ["form"], "may": ["entry"], "__call__": ["tree"], "__add__": None, "__mul__": None, "__rmul__": None,
        "__eq__": None,
    },
    "Row": {
        "__len__": None, "__getitem__": None, "__eq__": None, "__add__": None, "__mul__": None, "__rmul__": None,
        "without": ["k"], "__call__": ["tree"], "play": ["tree"],
    },
    "Passage": {"__call__": ["name"], "steps": []},
    "Line": {"lets": ["form", "mode", "owner", "group"], "patterns": ["letter"], "__eq__": None},
    "Kind": {
        "lets": ["form", "mode", "owner", "group"], "__contains__": None, "holds": ["tree"], "__or__": None, "__and__": None,
        "folder_modes": ["owner", "group"], "__eq__": None,
    },
    "FolderType": {"passes": ["user"], "lists": ["user"], "changed": ["change"], "__eq__": None, "__str__": None},
    "Stands": {
        "__contains__": None, "__len__": None, "__eq__": None, "nexts": ["joint"], "way": ["joint"], "each": [],
    },
    "Verdict": {"__bool__": None, "__eq__": None}, "Held": {"__init__": None}, "Parted": {"__init__": None, "as_tree": []},
    "Beat": {"__call__": ["c"], "through": ["c"], "nth": ["k"], "__eq__": None}, "Help": {"__bool__": None},
    "Desk": {"ask": ["line"], "run": ["lines"], "tree_copy": []},
}
GENERATORS = {("Tree", "entries"), ("Row", "play"), ("Passage", "steps"), (None, "words"),
              ("Stands", "each"), (None, "folder_types"), (None, "findings")}
DEFAULTS = {
    ("commands", "Command"): {"order": "first", "kinds": "all", "start": ""},
    ("kinds", "Line"): {"owners": None, "groups": None, "must": 0, "never": 0}, ("stands", "Stands"): {"most": 400},
    ("stands", "agree"): {"mask": 0o777}, ("stands", "is_below"): {"mask": 0o777},
    ("alike", "alike"): {"kind": None, "mask": 0o777, "most": 400}, ("alike", "at_most"): {"kind": None, "mask": 0o777, "most": 400},
    ("alike", "needless"): {"kind": None, "mask": 0o777, "most": 400},
    ("alike", "exchanged"): {"kind": None, "mask": 0o777, "most": 400},
    ("lasting", "never_lost"): {"kind": None, "most": 400}, ("lasting", "ends_in"): {"kind": None, "most": 400},
    ("lasting", "settles"): {"kind": None, "most": 400}, ("waves", "wave"): {"deep": 2},
    ("back", "leads_back"): {"kind": None, "most": 400}, ("texts", "report"): {"kind": None},
    ("lookers", "shows_alike"): {"kind": None, "mask": 0o777}, ("lookers", "shows_at_most"): {"kind": None, "mask": 0o777},
    ("lookers", "shows_needless"): {"kind": None, "mask": 0o777}, ("lookers", "shows_exchanged"): {"kind": None, "mask": 0o777},
    ("lookers", "shows_never_lost"): {"kind": None}, ("lookers", "shows_ends_in"): {"kind": None},
    ("lookers", "shows_led_back"): {"kind": None},
}


def module(name):
    return importlib.import_module("modesdown." + name)


def listed():
    """All classes of the interface, with their modules."""
    return [(told, getattr(module(told), name)) for told, classes in MADE.items() for name in classes]


def parameters(call):
    return [name for name in inspect.signature(call).parameters if name != "self"]


class Interface(unittest.TestCase):
    def test_defined_where_they_are_listed(self):
        for told, one in listed():
            self.assertTrue(inspect.isclass(one))
            self.assertEqual(one.__module__, "modesdown." + told)
        for told, functions in FUNCTIONS.items():
            for name in functions:
                one = getattr(module(told), name)
                self.assertTrue(inspect.isfunction(one))
                self.assertEqual((one.__module__, one.__name__), ("modesdown." + told, name))

    def test_names_stand_in_the_class_itself(self):
        for told, one in listed():
            own, name = vars(one), one.__name__
            for word in PROPERTIES.get(name, ()):
                self.assertIsInstance(own[word], property, (name, word))
            for word in STATIC.get(name, ()):
                self.assertIsInstance(own[word], staticmethod, (name, word))
            for word in OF_CLASS.get(name, ()):
                self.assertIsInstance(own[word], classmethod, (name, word))
            for word in METHODS.get(name, ()):
                self.assertTrue(inspect.isfunction(own[word]), (name, word))
            for word in VALUES.get(name, ()):
                self.assertIn(word, own, name)

    def test_parameters(self):
        for told, functions in FUNCTIONS.items():
            for name, names in functions.items():
                self.assertEqual(parameters(getattr(module(told), name)), names, name)
        for told, one in listed():
            name = one.__name__
            if MADE[told][name] is not None:
                self.assertEqual(parameters(one), MADE[told][name], name)
            for table in (STATIC, OF_CLASS, METHODS):
                for word, names in table.get(name, {}).items():
                    if names is not None:
                        self.assertEqual(parameters(getattr(one, word)), names, (name, word))

    def test_defaults(self):
        for told in {**FUNCTIONS, **MADE}:
            for name in [*FUNCTIONS.get(told, ()), *MADE.get(told, ())]:
                signature = inspect.signature(getattr(module(told), name))
                found = {word: one.default for word, one in signature.parameters.items() if one.default is not one.empty}
                self.assertEqual(found, DEFAULTS.get((told, name), {}), name)

    def test_generators(self):
        for told, one in listed():
            for word in METHODS.get(one.__name__, ()):
                wanted = (one.__name__, word) in GENERATORS
                self.assertEqual(inspect.isgeneratorfunction(vars(one)[word]), wanted, word)
        for told, functions in FUNCTIONS.items():
            for name in functions:
                self.assertEqual(inspect.isgeneratorfunction(getattr(module(told), name)), (None, name) in GENERATORS)

    def test_errors_set_their_fields_in_their_own_body(self):
        for name, value in vars(errors).items():
            if inspect.isclass(value) and name not in ("ModesError", "BadInput", "NoWay"):
                self.assertIn("__init__", vars(value), name)


if __name__ == "__main__":
    unittest.main()
