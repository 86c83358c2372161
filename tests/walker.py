"""Points 5 to 9 of the document word for word, on plain dicts: slow, and made without the package.

A user is a tuple (chief, name, groups). A command is a tuple (user, change, order, kinds, start), the change a text.
A tree is a dict from paths to lists [form, mode, owner, group].
"""

from tests import oracle

USERS = [
    (False, "ann", ()), (False, "ann", ("staff",)), (False, "bob", ("staff", "ops")), (False, "bob", ("ops",)),
    (False, "cy", ()), (True, "cy", ("staff",)), (True, "root", ()), (False, "staff", ("ann",)),
]
OWNERS = ["ann", "bob", "cy", "staff"]
GROUPS = ["staff", "ops", "ann", "none"]
NAMES = ["a", "b", "ab", "zz", "q"]
MODES = [0, 0o777, 0o755, 0o750, 0o700, 0o070, 0o007, 0o500, 0o055, 0o705, 0o711, 0o644, 0o577, 0o737, 0o773]
STARTS = ["", "", "", "a", "b", "a/b", "a/a", "b/ab/a", "a/b/zz", "q"]


def digit_at(user, mode, owner, group):
    chief, name, groups = user
    digits = f"{mode:03o}"
    if owner == name:
        return int(digits[0])
    return int(digits[1] if group in groups else digits[2])


def passes(user, entry):
    return user[0] or digit_at(user, *entry[1:]) in (1, 3, 5, 7)


def lists(user, entry):
    return user[0] or digit_at(user, *entry[1:]) in (5, 7)


def may_change(user, entry):
    return user[0] or user[1] == entry[2]


def children(tree, path):
    """The paths of the entries below a folder, by names ascending."""
    found = []
    for other in tree:
        if other != "" and other.rpartition("/")[0] == path:
            found.append(other)
    return sorted(found, key=lambda one: one.rpartition("/")[2])


def in_order(tree, path=""):
    """The paths of all entries, a folder directly ahead of what is in it."""
    paths = [path]
    for below in children(tree, path):
        paths += in_order(tree, below)
    return paths


class Walk:
    """One command that is done to a tree: its events, and the paths of the entries to which it came."""

    def __init__(self, command, tree):
        self.user, self.change, self.order, self.kinds, self.start = command
        self.tree = tree
        self.events = []
        self.came = []
        self.come("")

    def come(self, path):
        self.came.append(path)
        entry = self.tree[path]
        if path != self.start and (path == "" or self.start.startswith(path + "/")):
            self.on_the_way(path, entry)
        elif entry[0] == "file":
            self.meant(path, entry)
        else:
            self.inside(path, entry)

    def on_the_way(self, path, entry):
        rest = self.start[len(path) + 1:] if path else self.start
        below = (path + "/" if path else "") + rest.split("/")[0]
        if entry[0] == "file":
            self.events.append(("missing", below))
        elif not passes(self.user, entry):
            self.events.append(("barred", path))
        elif below not in self.tree:
            self.events.append(("missing", below))
        else:
            self.come(below)

    def inside(self, path, entry):
        if self.order == "first":
            self.meant(path, entry)
        if lists(self.user, entry):
            for below in children(self.tree, path):
                self.come(below)
        else:
            self.events.append(("barred", path))
        if self.order == "last":
            self.meant(path, entry)

    def meant(self, path, entry):
        if self.kinds not in ("all", entry[0] + "s"):
            return
        if not may_change(self.user, entry):
            self.events.append(("refused", path))
            return
        before = entry[1]
        entry[1] = oracle.image(self.change, entry[0])[before]
        self.events.append(("changed", path, before, entry[1]))


def stand_number(start, path):
    """The number of names of a start that a path has."""
    number = 0
    for one, other in zip(start.split("/") if start else [], path.split("/") if path else []):
        if one != other:
            break
        number += 1
    return number


def played(commands, tree):
    """The events of each command, and the stand of each entry; the tree is changed."""
    walks = [Walk(command, tree) for command in commands]
    stands = {}
    for path in tree:
        stands[path] = tuple(
            stand_number(walk.start, path) if path in walk.came else -1 for walk in walks
        )
    return [walk.events for walk in walks], stands


def random_mode(chance):
    if chance.random() < 0.5:
        return chance.choice(MODES)
    return chance.randrange(512)


def random_tree(chance, most=14):
    tree = {"": ["folder", random_mode(chance), chance.choice(OWNERS), chance.choice(GROUPS)]}
    for _ in range(chance.randrange(most)):
        above = chance.choice([path for path in tree if tree[path][0] == "folder"])
        path = (above + "/" if above else "") + chance.choice(NAMES)
        if path not in tree:
            form = "folder" if chance.random() < 0.65 else "file"
            tree[path] = [form, random_mode(chance), chance.choice(OWNERS), chance.choice(GROUPS)]
    return tree


def open_tree(chance, most=14):
    """A random tree most of whose folders let in."""
    tree = random_tree(chance, most)
    for entry in tree.values():
        if chance.random() < 0.7:
            entry[1] |= chance.choice([0o555, 0o500, 0o550, 0o505])
    return tree


def random_command(chance, users=USERS):
    return (
        chance.choice(users), oracle.random_change(chance, 3), chance.choice(["first", "last"]),
        chance.choice(["all", "all", "folders", "files"]), chance.choice(STARTS),
    )
