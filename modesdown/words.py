"""Stands and words of entries, and what one folder does with the commands that come to it."""

from modesdown.checks import is_name
from modesdown.errors import BadName, BadStand
from modesdown.paths import joined, names_in
from modesdown.standing import name_beside, names_ahead, next_number, starts_of, top_stand, word_in, wrong_index
from modesdown.trees import Folder


def stand_of(row, tree, path):
    """The stand of the entry with this path."""
    tree.entry(path)
    entry = tree.entry("")
    stand = top_stand(row)
    for name in names_in(path):
        passage = Passage(row, stand, entry.mode, entry.owner, entry.group)
        stand = passage(name)
        entry = entry[name]
    return stand


def word_of(row, tree, path):
    """The word of the entry with this path."""
    return word_in(stand_of(row, tree, path))


def words(row, tree):
    """Yields the pairs (path, word) of all entries, in the order of the tree."""
    for path, stand in stands_from(row, top_stand(row), "", tree.entry("")):
        yield (path, word_in(stand))


def reckoned(row, tree):
    """A new tree, equal to the one that the row leaves, each mode told by the entry's stand."""
    made = tree.copy()
    for path, stand in stands_from(row, top_stand(row), "", tree.entry("")):
        made[path] = behind(row, stand, tree.entry(path))
    return made


def stands_from(row, stand, path, entry):
    """The pairs (path, stand) of an entry that has this stand, and of all that is below it."""
    pairs = [(path, stand)]
    if isinstance(entry, Folder):
        passage = Passage(row, stand, entry.mode, entry.owner, entry.group)
        for name in entry.names():
            pairs.extend(stands_from(row, passage(name), joined(path, name), entry[name]))
    return pairs


class Passage:
    """What a folder does with the commands of a row that has this stand at it. It never changes."""

    def __init__(self, row, stand, mode, owner, group):
        refuse_wrong(row, stand)
        folder = Folder(mode, owner, group)
        self._starts = starts_of(row)
        self._stand = stand
        self._done = done_in(row, stand, folder)
        self._after = self._done[-1][2] if self._done else folder.mode.number
        self._ahead = tuple(names_ahead(row, stand))

    def __call__(self, name):
        """The stand at an entry with this name below the folder."""
        if not is_name(name):
            raise BadName(name)
        stand = [-1 for _ in self._stand]
        for at, told, _ in self._done:
            if told == "on":
                stand[at] = next_number(self._starts[at], self._stand[at], name)
        return tuple(stand)

    @property
    def after(self):
        return self._after

    @property
    def word(self):
        return word_in(self._stand)

    # An error has a field of this name, and what is assigned anywhere has a setter everywhere.
    @word.setter
    def word(self, value):
        raise AttributeError("a passage never changes")

    @property
    def ahead(self):
        return self._ahead

    @property
    def other(self):
        return name_beside(self._ahead)

    def steps(self):
        """Yields a tuple (index, whether it goes on, mode that it leaves) for each command that comes."""
        for at, told, number in self._done:
            yield (at, told, number)


def behind(row, stand, entry):
    """The mode, an integer, that an entry has behind a row that has this stand at it."""
    refuse_wrong(row, stand)
    number = entry.mode.number
    for at, names in enumerate(starts_of(row)):
        if stand[at] == len(names) and row[at].may(entry):
            number = left_by(row[at], number, entry.form)
    return number


def done_in(row, stand, folder):
    """The tuples of the steps of a row through a folder."""
    done = []
    number = folder.mode.number
    for at, names in enumerate(starts_of(row)):
        if stand[at] == -1:
            continue
        command = row[at]
        seen = number
        inside = stand[at] == len(names)
        if inside and command.may(folder):
            number = left_by(command, number, "folder")
        if command.order == "first":
            seen = number
        told = "on" if goes_on(command.user, inside, seen, folder) else "bars"
        done.append((at, told, number))
    return done


def goes_on(user, inside, number, folder):
    """Whether a user goes on below a folder that has this mode: by a name on the way, otherwise by listing."""
    if inside:
        return user.lists(number, folder.owner, folder.group)
    return user.passes(number, folder.owner, folder.group)


def left_by(command, number, form):
    """The mode, an integer, that a command makes of the mode of an entry."""
    change = command.change
    return change(number, form).number


def refuse_wrong(row, stand):
    """Refuses what is no stand of a row."""
    at = wrong_index(row, stand)
    if at is not None:
        raise BadStand(at)
