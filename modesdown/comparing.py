"""Whether two rows leave the same to the entries at a joint stand.

Each letter is looked at by itself, at the patterns that a line lets.
"""

from modesdown.changes import PATTERNS, in_turn, parts_for
from modesdown.foldertypes import groups_for, owners_for, users_of
from modesdown.modes import bits_of, pattern_in
from modesdown.standing import starts_of

# The letters with what they weigh in a digit, in the order of the parts of a table.
LETTERS_WEIGHED = (("r", 4), ("w", 2), ("x", 1))


class Owned:
    """The entries that a line lets, of one owner."""

    def __init__(self, line, owner, group, mays):
        self._form = line.form
        self._owner = owner
        self._group = group
        self._mays = mays
        self._patterns = [line.patterns(letter) for letter, _ in LETTERS_WEIGHED]

    def entry(self, at, pattern):
        """The form, mode, owner and group of an entry whose letter with this index has the pattern."""
        mode = 0
        for k, (_, weight) in enumerate(LETTERS_WEIGHED):
            told = pattern if k == at else self._patterns[k][0]
            mode = mode | bits_of(told, weight)
        return (self._form, mode, self._owner, self._group)


def owned_by(kind, rows):
    """What all lines let, no two of one line for owners whose entries the same users may change."""
    users = users_of(rows)
    found = []
    for line in kind.lines:
        seen = {}
        for owner in owners_for(kind, rows):
            mays = tuple([user.may_change(owner) for user in users])
            for group in groups_for(kind, rows):
                if mays not in seen and line.lets_names(owner, group):
                    seen[mays] = True
                    found.append(Owned(line, owner, group, mays))
    return found


class Comparison:
    """Two rows on a kind and a mask."""

    def __init__(self, kind, one, other, mask):
        self._rows = (one, other)
        self._users = users_of((one, other))
        self._starts = [starts_of(one), starts_of(other)]
        self._owned = owned_by(kind, (one, other))
        self._masks = [pattern_in(mask, weight) for _, weight in LETTERS_WEIGHED]
        self._known = {}

    def parted(self, joint, form, below):
        """An entry of a form on which the rows part, or None: where they are unlike, or the first one is not below."""
        for owned in self._owned:
            if owned._form == form:
                one = self.parts_behind(0, joint[0], form, owned._mays)
                other = self.parts_behind(1, joint[1], form, owned._mays)
                for at, mask in enumerate(self._masks):
                    for pattern in owned._patterns[at]:
                        left = one[at][pattern] & mask
                        right = other[at][pattern] & mask
                        if left & (7 - right) or (left != right and not below):
                            return owned.entry(at, pattern)
        return None

    def parts_behind(self, at, stand, form, mays):
        """What a row makes of the patterns of r, w and x of entries at a stand."""
        inside = tuple([number == len(names) for number, names in zip(stand, self._starts[at])])
        key = (at, inside, form, mays)
        if key not in self._known:
            parts = (PATTERNS, PATTERNS, PATTERNS)
            row = self._rows[at]
            for k, told in enumerate(inside):
                command = row[k]
                if told and command.means(form) and mays[self._users.index(command.user)]:
                    parts = in_turn(parts, parts_for(command.change.tables, form))
            self._known[key] = parts
        return self._known[key]
