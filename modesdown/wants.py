"""What a question about one row, or about two that lead back, wants at each joint stand and at each entry.

Each class here has what Comparison has for rows that should be alike: `ending`, what ends a chain to a
joint stand so that its last entry shows the contrary, and `ends`, whether an entry of a tree shows it.
"""

from modesdown.changes import PATTERNS
from modesdown.comparing import LETTERS_WEIGHED, Leaving, left_at
from modesdown.foldertypes import groups_for, owners_for, users_of
from modesdown.modes import bits_of
from modesdown.questions import Question, leasts
from modesdown.standing import next_number, starts_of
from modesdown.words import stand_of


class NeverLost:
    """That no command of a row is lost."""

    def __init__(self, kind, row):
        self._kind = kind
        self._rows = (row,)
        self._question = Question(kind, (row,))

    def ending(self, joint, form):
        """A folder at a joint stand, without its name, and an entry below it at which a command is lost; or None."""
        lost = self._question.lost_at(joint) if form == "folder" else None
        if lost is None:
            return None
        folder, name = lost
        return (("folder", *folder), (name, "folder", *folder))

    def ends(self, tree, path):
        """Whether a command is lost at this entry of a tree."""
        row = self._rows[0]
        above, _, name = path.rpartition("/")
        if path == "":
            return False
        for names, number, there in zip(starts_of(row), stand_of(row, tree, above), stand_of(row, tree, path)):
            if number != -1 and there == -1 and next_number(names, number, name) != -1:
                return True
        return False


class EndsIn:
    """That a row ends in a goal."""

    def __init__(self, kind, row, goal):
        self._kind = kind
        self._rows = (row,)
        self._goal = goal
        users = users_of((row,))
        self._leaving = Leaving(row, users)
        self._aims = aims_of(kind, row, goal, users)
        self._known = {}

    def ending(self, joint, form):
        """An entry of a form, without its name, that is not of the goal behind the row, alone in a tuple; or None."""
        stand = joint[0]
        key = (self._leaving.inside(stand), form)
        if key not in self._known:
            self._known[key] = self.missed_at(stand, form)
        return self._known[key]

    def missed_at(self, stand, form):
        """As ending, for a stand."""
        for aim in self._aims:
            if aim._form == form:
                parts = self._leaving.parts(stand, form, aim._mays)
                mode = aim.missed(parts)
                if mode is not None:
                    return ((form, mode, aim._owner, aim._group),)
        return None

    def ends(self, tree, path):
        """Whether this entry of a tree is not of the goal behind the row."""
        return left_at(self._rows[0], tree, path) not in self._goal


class Aim:
    """The entries of an owner and a group that a line lets, and those lines of a goal that may let them."""

    def __init__(self, line, owner, group, mays, goals):
        self._form = line.form
        self._owner = owner
        self._group = group
        self._mays = mays
        self._patterns = [line.patterns(letter) for letter, _ in LETTERS_WEIGHED]
        self._letting = [letting(goals, letter) for letter, _ in LETTERS_WEIGHED]

    def missed(self, parts):
        """The mode of such an entry that no line of the goal lets behind these parts, or None."""
        reads, writes, enters = [
            leasts(patterns, [masks[pattern] for pattern in part])
            for patterns, masks, part in zip(self._patterns, self._letting, parts)
        ]
        for one, read in reads.items():
            for two, write in writes.items():
                for three, enter in enters.items():
                    if one & two & three == 0:
                        return bits_of(read, 4) | bits_of(write, 2) | bits_of(enter, 1)
        return None


def letting(lines, letter):
    """For each pattern of a letter: the bits of those lines that let it."""
    told = [line.patterns(letter) for line in lines]
    return [sum([1 << at for at, patterns in enumerate(told) if pattern in patterns]) for pattern in PATTERNS]


def aims_of(kind, row, goal, users):
    """What the lines of a kind let, no two for entries that the same users may change and the same goals let."""
    found = []
    for line in kind.lines:
        seen = {}
        for owner in owners_for(kind, (row,), goal.lines):
            mays = tuple([user.may_change(owner) for user in users])
            for group in groups_for(kind, (row,), goal.lines):
                goals = [one for one in goal.lines if one.form == line.form and one.lets_names(owner, group)]
                key = (mays, tuple([goal.lines.index(one) for one in goals]))
                if key not in seen and line.lets_names(owner, group):
                    seen[key] = True
                    found.append(Aim(line, owner, group, mays, goals))
    return found


class LedBack:
    """That the last command of a second row comes wherever the command of the first one, alone, comes."""

    def __init__(self, kind, alone, whole):
        self._kind = kind
        self._rows = (alone, whole)

    def ending(self, joint, form):
        """An entry of a form, without its name, alone in a tuple, if the command is not led back at a joint stand."""
        if not is_left_out(joint[0], joint[1]):
            return None
        for line in self._kind.lines:
            if line.form == form:
                return ((form, line.must.number, told_name(line.owners), told_name(line.groups)),)
        return None

    def ends(self, tree, path):
        """Whether the command is not led back at this entry of a tree."""
        alone, whole = self._rows
        return is_left_out(stand_of(alone, tree, path), stand_of(whole, tree, path))


def is_left_out(alone, whole):
    """Whether the command of the first row comes to an entry, and the last one of the second row does not."""
    return alone[0] != -1 and whole[-1] == -1


def told_name(names):
    """A name among the told ones, where None is any name."""
    return "q" if names is None else names[0]
