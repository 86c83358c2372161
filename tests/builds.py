"""Objects of the package, made of the plain values of tests.walker."""

from modesdown.changes import Change
from modesdown.commands import Command, Row
from modesdown.kinds import Kind, Line
from modesdown.trees import File, Folder, Tree
from modesdown.users import Chief, User
from tests import walker


def user_of(told):
    chief, name, groups = told
    return Chief(name, *groups) if chief else User(name, *groups)


def command_of(told):
    user, change, order, kinds, start = told
    return Command(user_of(user), Change.read(change), order, kinds, start)


def row_of(commands):
    return Row(*[command_of(told) for told in commands])


def entry_of(tree, path):
    """Built from below, by put alone."""
    form, mode, owner, group = tree[path]
    if form == "file":
        return File(mode, owner, group)
    made = Folder(mode, owner, group)
    for below in reversed(walker.children(tree, path)):
        made.put(below.rpartition("/")[2], entry_of(tree, below))
    return made


def tree_of(tree):
    return Tree(entry_of(tree, ""))


def plain(tree):
    """A Tree as a dict of lists, told by its rows."""
    return {path: [form, mode, owner, group] for path, form, mode, owner, group in tree.rows()}


def copied(tree):
    return {path: list(entry) for path, entry in tree.items()}


def kind_of(lines):
    return Kind(*[Line(*line) for line in lines])


def plain_chain(chain):
    """A chain in the form of point 18 as a dict of lists."""
    tree, path = {}, ""
    for name, form, mode, owner, group in chain:
        path = path + "/" + name if path else name
        tree[path] = [form, mode, owner, group]
    return tree
