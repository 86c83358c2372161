"""Walks: how a command goes down a tree, event by event."""

from modesdown.paths import joined, names_in
from modesdown.trees import Folder


def events_of(command, tree):
    """Yields the events of a command that is done to a tree, each as soon as it has happened."""
    path = ""
    entry = tree.entry("")
    for name in names_in(command.start):
        below = joined(path, name)
        if isinstance(entry, Folder) and not command.user.passes(entry.mode, entry.owner, entry.group):
            yield ("barred", path)
            return
        if not isinstance(entry, Folder) or name not in entry:
            yield ("missing", below)
            return
        path = below
        entry = entry[name]
    yield from events_inside(command, path, entry)


def events_inside(command, path, entry):
    """Yields the events at the start or an entry below it, and below that."""
    meant = command.means(entry.form)
    if not isinstance(entry, Folder):
        if meant:
            yield done_to(command, path, entry)
        return
    if meant and command.order == "first":
        yield done_to(command, path, entry)
    if command.user.lists(entry.mode, entry.owner, entry.group):
        for name in entry.names():
            below = joined(path, name)
            child = entry[name]
            yield from events_inside(command, below, child)
    else:
        yield ("barred", path)
    if meant and command.order == "last":
        yield done_to(command, path, entry)


def done_to(command, path, entry):
    """Changes an entry that the command means, if its user may change it; the event of this."""
    if not command.user.may_change(entry.owner):
        return ("refused", path)
    before = entry.mode
    change = command.change
    after = change(before, entry.form)
    entry.set_mode(after)
    return ("changed", path, before.number, after.number)
