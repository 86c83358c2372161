"""Joint stands of rows of commands: the least closed tuple, and whether two rows agree at one."""

from modesdown.comparing import Comparison
from modesdown.errors import BadCommand, BadStand, NoStand, TooMany
from modesdown.modes import number_of
from modesdown.questions import Question
from modesdown.standing import top_joint, word_in, wrong_index

ROWS = 3


def is_joint(rows, joint):
    """Whether a value is a tuple of stands, one for each of some rows."""
    if not isinstance(joint, tuple) or len(joint) != len(rows):
        return False
    return all([wrong_index(row, stand) is None for row, stand in zip(rows, joint)])


class Stands:
    """The least closed tuple of joint stands. It never changes."""

    MOST = 400

    def __init__(self, kind, *rows, most=400):
        if not 1 <= len(rows) <= ROWS:
            raise BadCommand("rows")
        self._kind = kind
        self._rows = rows
        self._top = top_joint(rows)
        self._question = Question(kind, rows)
        # By joint stand: a joint stand above it, the folder there, and the name of the entry.
        self._steps = {}
        self._levels = []
        self.gather(most)
        self._listed = tuple(sorted(self._steps))

    def gather(self, most):
        """Finds all joint stands, those below fewer folders first."""
        level = [self._top]
        while level:
            reached = []
            for joint in level:
                for there, (folder, name) in self._question.next_to(joint).items():
                    if there not in self._steps:
                        self._steps[there] = (joint, folder, name)
                        reached.append(there)
                if len(self._steps) > most:
                    raise TooMany(most)
            level = sorted(reached)
            self._levels.append(level)

    @property
    def listed(self):
        return self._listed

    @property
    def told(self):
        told = [tuple([word_in(stand) for stand in joint]) for joint in self._listed]
        return tuple(sorted(set(told)))

    def __contains__(self, joint):
        return is_joint(self._rows, joint) and joint in self._steps

    def __len__(self):
        return len(self._listed)

    def __eq__(self, other):
        return isinstance(other, Stands) and self._kind == other._kind and self._rows == other._rows

    def nexts(self, joint):
        """The joint stands next to one of them, or to the top's, ascending."""
        if not is_joint(self._rows, joint) or (joint != self._top and joint not in self._steps):
            raise NoStand(joint)
        return tuple(sorted(self._question.next_to(joint)))

    def way(self, joint):
        """A shortest chain of folders to a joint stand, and the name of the entry below its last one."""
        if joint not in self:
            raise NoStand(joint)
        above, folder, last = self._steps[joint]
        folders = [folder]
        names = []
        # What is next to the top's was found from there, so the top's tells where the way begins.
        while above != self._top:
            above, folder, name = self._steps[above]
            folders = [folder] + folders
            names = [name] + names
        chain = [(name, "folder", *folder) for name, folder in zip([""] + names, folders)]
        return (tuple(chain), last)

    def each(self):
        """Yields them by the numbers of folders of their ways, ascending among those of one number."""
        for level in self._levels:
            yield from level


def ending_at(kind, rows, joint, form, mask, below):
    """An entry that parts two rows at a joint stand, or None, behind all checks of such a question."""
    if not isinstance(joint, tuple) or len(joint) != 2:
        raise BadStand(0)
    one, other = rows
    for at, row in enumerate(rows):
        if wrong_index(row, joint[at]) is not None:
            raise BadStand(at)
    comparison = Comparison(kind, one, other, number_of(mask), below)
    return comparison.ending(joint, form)


def agree(kind, one, other, joint, form, mask=0o777):
    """Whether two rows leave the same bits of the mask to all entries of a form at a joint stand."""
    return ending_at(kind, (one, other), joint, form, mask, False) is None


def is_below(kind, one, other, joint, form, mask=0o777):
    """Whether the bits of the mask that the first row leaves are among those of the second one there."""
    return ending_at(kind, (one, other), joint, form, mask, True) is None
