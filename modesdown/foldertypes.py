"""Folder types: an owner, a group and a mode, and which of them count for a question about all trees."""

from modesdown.checks import LETTERS
from modesdown.modes import Mode, number_of


class FolderType:
    """What folders of one owner, group and mode have in common. It never changes."""

    def __init__(self, owner, group, mode):
        self._owner = owner
        self._group = group
        self._mode = Mode(number_of(mode))

    @property
    def owner(self):
        return self._owner

    @property
    def group(self):
        return self._group

    @property
    def mode(self):
        return self._mode

    def passes(self, user):
        """Whether a user passes such a folder."""
        return user.passes(self._mode, self._owner, self._group)

    def lists(self, user):
        """Whether a user lists such a folder."""
        return user.lists(self._mode, self._owner, self._group)

    def changed(self, change):
        """The folder type behind a change of the folder."""
        mode = change(self._mode, "folder")
        return FolderType(self._owner, self._group, mode)

    def __eq__(self, other):
        return (
            isinstance(other, FolderType)
            and self._owner == other._owner
            and self._group == other._group
            and self._mode == other._mode
        )

    def __str__(self):
        return f"{self._owner} {self._group} {str(self._mode)}"


def spare(names):
    """The first of q, qa, qb and so on that is not among some names."""
    for name in ["q"] + [f"q{letter}" for letter in LETTERS]:
        if name not in names:
            return name
    return None


def users_of(rows):
    """The users of the commands of some rows, each once, in the order of the commands."""
    users = []
    for row in rows:
        for at in range(len(row)):
            user = row[at].user
            if user not in users:
                users.append(user)
    return users


def with_spare(names):
    """Some names, ascending, and then the one that stands for all other names."""
    told = sorted(set(names))
    return told + [spare(told)]


def owners_for(kind, rows, more=()):
    """The owners that count for a question about some rows, a kind and more lines."""
    names = [user.name for user in users_of(rows)]
    for line in kind.lines + more:
        names.extend(line.owners or ())
    return with_spare(names)


def groups_for(kind, rows, more=()):
    """The groups that count for a question about some rows, a kind and more lines."""
    names = []
    for user in users_of(rows):
        names.extend(user.groups)
    for line in kind.lines + more:
        names.extend(line.groups or ())
    return with_spare(names)


def folder_types(kind, *rows):
    """Yields all folder types of a kind that count for some rows."""
    for owner in owners_for(kind, rows):
        for group in groups_for(kind, rows):
            for mode in kind.folder_modes(owner, group):
                yield FolderType(owner, group, mode)
