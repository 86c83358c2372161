"""Whether two rows of commands do the same to all trees of a kind, and the verdicts that tell it."""

from modesdown.changes import FORMS
from modesdown.checks import is_whole_to
from modesdown.commands import Row
from modesdown.comparing import Comparison
from modesdown.errors import NoCommand
from modesdown.kinds import told_kind
from modesdown.modes import number_of
from modesdown.paths import joined
from modesdown.standing import top_joint
from modesdown.stands import Stands
from modesdown.trees import Tree


class Verdict:
    """An answer to a question about all trees. It never changes."""

    def __init__(self, answer, shown):
        self._answer = answer
        self._shown = tuple(shown)

    @property
    def answer(self):
        return self._answer

    @property
    def paper(self):
        return (self._answer, self._shown)

    def __bool__(self):
        return bool(self._answer == "yes")

    def __eq__(self, other):
        return isinstance(other, Verdict) and self.paper == other.paper


class Held(Verdict):
    """Yes, with a closed tuple of joint stands."""

    def __init__(self, listed):
        super().__init__("yes", listed)

    @property
    def listed(self):
        return self._shown


class Parted(Verdict):
    """No, with a chain whose last entry shows it."""

    def __init__(self, chain):
        super().__init__("no", chain)

    @property
    def chain(self):
        return self._shown

    def as_tree(self):
        """A new tree of the entries of the chain."""
        path = ""
        rows = []
        for name, form, mode, owner, group in self._shown:
            path = joined(path, name) if rows else ""
            rows.append((path, form, mode, owner, group))
        return Tree.of(*rows)


def named(name, ending):
    """The end of a chain, whose first entry has this name."""
    first = (name, *ending[0])
    return (first, *ending[1:])


def verdict_on(question, most):
    """Held, or Parted with a shortest chain, if something at a joint stand ends one that shows the contrary."""
    rows = question._rows
    stands = Stands(question._kind, *rows, most=most)
    ending = question.ending(top_joint(rows), "folder")
    if ending is not None:
        return Parted(named("", ending))
    for joint in stands.each():
        for form in FORMS:
            ending = question.ending(joint, form)
            if ending is not None:
                chain, name = stands.way(joint)
                return Parted(chain + named(name, ending))
    return Held(stands.listed)


def alike(one, other, kind=None, mask=0o777, most=400):
    """Whether behind both rows each entry of each tree of the kind has the same bits of the mask."""
    return verdict_on(Comparison(told_kind(kind), one, other, number_of(mask), False), most)


def at_most(one, other, kind=None, mask=0o777, most=400):
    """Whether the bits of the mask that the first row leaves are always among those of the second one."""
    return verdict_on(Comparison(told_kind(kind), one, other, number_of(mask), True), most)


def needless(row, index, kind=None, mask=0o777, most=400):
    """Whether a row does the same without one of its commands."""
    return alike(row, row.without(index), kind, mask, most)


def exchanged(row, index, kind=None, mask=0o777, most=400):
    """Whether a row does the same if a command and the one behind it are exchanged."""
    return alike(row, row_exchanged(row, index), kind, mask, most)


def row_exchanged(row, index):
    """The row in which a command and the one behind it are exchanged."""
    if not is_whole_to(index, len(row) - 2):
        raise NoCommand(index)
    commands = [row[at] for at in range(len(row))]
    commands[index], commands[index + 1] = commands[index + 1], commands[index]
    return Row(*commands)
