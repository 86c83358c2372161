"""Whether two rows leave the same to the entries at a joint stand.

Each letter is looked at by itself, at the patterns that a line lets.
"""

from modesdown.changes import PATTERNS, in_turn, parts_for
from modesdown.foldertypes import groups_for, owners_for, users_of
from modesdown.modes import bits_of, pattern_in
from modesdown.standing import starts_of

# The letters with what they weigh in a digit, in the order of the parts of a table.
LETTERS_WEIGHED = (("r", 4), ("w", 2), ("x", 1))


class Owned:
    """The entries that a line lets, of one owner."""

    def __init__(self, line, owner, group, mays):
        self._form = line.form
        self._owner = owner
        self._group = group
        self._mays = mays
        self._patterns = [line.patterns(letter) for letter, _ in LETTERS_WEIGHED]

    def entry(self, at, pattern):
        """The form, mode, owner and group of an entry whose letter with this index has the pattern."""
        mode = 0
        for k, (_, weight) in enumerate(LETTERS_WEIGHED):
            told = pattern if k == at else self._patterns[k][0]
            mode = mode | bits_of(told, weight)
        return (self._form, mode, self._owner, self._group)


def owned_by(kind, rows):
    """What all lines let, no two of one line for owners whose entries the same users may change."""
    users = users_of(rows)
    found = []
    for line in kind.lines:
        seen = {}
        for owner in owners_for(kind, rows):
            mays = tuple([user.may_change(owner) for user in users])
            for group in groups_for(kind, rows):
                if mays not in seen and line.lets_names(owner, group):
                    seen[mays] = True
                    found.append(Owned(line, owner, group, mays))
    return found


class Leaving:
    """What a row leaves to the entries that it comes to."""

    def __init__(self, row, users):
        self._row = row
        self._users = users
        self._starts = starts_of(row)
        self._known = {}

    def inside(self, stand):
        """For each command, whether an entry with this stand is inside."""
        return tuple([number == len(names) for number, names in zip(stand, self._starts)])

    def parts(self, stand, form, mays):
        """What the row makes of the patterns of r, w and x of entries with this stand."""
        inside = self.inside(stand)
        key = (inside, form, mays)
        if key not in self._known:
            parts = (PATTERNS, PATTERNS, PATTERNS)
            for at, told in enumerate(inside):
                command = self._row[at]
                if told and command.means(form) and mays[self._users.index(command.user)]:
                    parts = in_turn(parts, parts_for(command.change.tables, form))
            self._known[key] = parts
        return self._known[key]


class Comparison:
    """Whether two rows are alike on a kind and a mask, or the first one is below the second one."""

    def __init__(self, kind, one, other, mask, below):
        self._kind = kind
        self._rows = (one, other)
        self._mask = mask
        self._below = below
        users = users_of((one, other))
        self._leavings = (Leaving(one, users), Leaving(other, users))
        self._owned = owned_by(kind, (one, other))
        self._masks = [pattern_in(mask, weight) for _, weight in LETTERS_WEIGHED]

    def unlike(self, left, right):
        """Whether bits of the mask that the rows leave part them."""
        return left & ~right != 0 if self._below else left != right

    def ending(self, joint, form):
        """An entry of a form, without its name, on which the rows part at a joint stand, alone in a tuple; or None."""
        one, other = self._leavings
        for owned in self._owned:
            if owned._form == form:
                first = one.parts(joint[0], form, owned._mays)
                second = other.parts(joint[1], form, owned._mays)
                for at, mask in enumerate(self._masks):
                    for pattern in owned._patterns[at]:
                        if self.unlike(first[at][pattern] & mask, second[at][pattern] & mask):
                            return (owned.entry(at, pattern),)
        return None

    def ends(self, tree, path):
        """Whether the rows part at this entry of a tree."""
        left, right = [left_at(row, tree, path).mode.number & self._mask for row in self._rows]
        return self.unlike(left, right)


def left_at(row, tree, path):
    """The entry that a row leaves at a path, which stays in the tree as it is."""
    made = tree.copy()
    row(made)
    return made.entry(path)
