"""Values of every kind that may be passed as any value, made anew at each call."""

from modesdown.changes import Change, Clause
from modesdown.commands import Command, Row
from modesdown.errors import BadMode, NoKind
from modesdown.modes import Mode
from modesdown.trees import File, Folder, Tree
from modesdown.users import Chief, User


def nested(deep):
    value = 5
    for k in range(deep):
        value = [value] if k % 2 else (value,)
    return value


def any_values():
    return [
        None, True, False,
        -1, 0, 1, 2, 4, 7, 8, 64, 511, 512, -511, 10 ** 60 - 1, -(10 ** 60) + 1,
        "", " ", "\n", "r", "w", "x", "X", "u", "g", "o", "a", "+", "-", "=", "0", "5", "rw", "wr", "rwx", "rwxX", "ugo",
        "gu", "u+r", "rwxr-x---", "---------", "r" * 2000,
        "ann", "abcdefgh", "abcdefghi", "Ann", "a b", "an1", "ann\n", "\nann", "a/b", "a/b/c", "a/b/c/d", "/", "/a", "a/", "a//b",
        "a/B", ".", "a/b/c\n", "a/" * 999 + "a", "first", "last", "all", "folders", "files", "file", "folder", "owner",
        (), [], {}, (5,), [5], {"r": 5}, {5: "r"}, ("r",), ["r"], ["u"], ["+"], (5, 5, 5), [None, {"a": (True,)}],
        nested(12), list(range(2999)),
        ("ann",), ["ann"], ("ann", "staff"), ["ann", "ann"], {"ann": "ann"},
        Mode(5), Clause("u", "+", "r"), Change.read("u+r"), BadMode("r"), NoKind(),
        User("ann"), Chief("ann", "staff"), File(5, "ann", "ann"), Folder(5, "ann", "ann"),
        Folder(5, "ann", "ann", ann=File(5, "ann", "ann")), Tree(Folder(5, "ann", "ann")),
        Command(User("ann"), Change.read("u+r")), Row(), Row(Command(User("ann"), Change.read("u+r"))),
    ]


def same(one, other):
    """Whether two values are equal, with the same kinds throughout."""
    if type(one) is not type(other):
        return False
    if isinstance(one, (list, tuple)):
        return len(one) == len(other) and all(same(a, b) for a, b in zip(one, other))
    if isinstance(one, dict):
        return same(sorted(one.items(), key=repr), sorted(other.items(), key=repr))
    return one == other


def is_integer(value):
    return type(value) is int


def described(value):
    """A text that tells a value whole, so that a change of it shows."""
    if isinstance(value, (list, tuple)):
        return f"{type(value).__name__}({', '.join(described(part) for part in value)})"
    if isinstance(value, (Mode, Clause, Change)):
        return f"{type(value).__name__} {value}"
    if isinstance(value, ValueError):
        return f"{type(value).__name__} {vars(value)}"
    return repr(value)
