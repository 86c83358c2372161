"""Kinds of trees: lines that say which files and which folders there may be."""

from modesdown.changes import FORMS, PATTERNS
from modesdown.checks import are_unlike_names, is_whole_to
from modesdown.errors import BadKind, NoKind, TooMany
from modesdown.modes import Mode, bits_of, number_of, pattern_in, weight_of
from modesdown.trees import Entry


def are_told(names):
    """Whether a value is None, or a list or tuple of one or two names, each once."""
    if names is None:
        return True
    return isinstance(names, (list, tuple)) and 1 <= len(names) <= 2 and are_unlike_names(names)


def is_mode(value):
    """Whether a value is a Mode, or an integer that is one."""
    return isinstance(value, Mode) or is_whole_to(value, Mode.MOST)


def ascending(names):
    """The names as an ascending tuple; None stays."""
    return None if names is None else tuple(sorted(names))


def in_common(one, other):
    """The names that stand in both of two tuples, where None is any name."""
    if one is None:
        return other
    if other is None:
        return one
    return tuple([name for name in one if name in other])


class Line:
    """What lets entries of one form. It never changes."""

    def __init__(self, form, owners=None, groups=None, must=0, never=0):
        if form not in FORMS:
            raise BadKind(0)
        if not are_told(owners):
            raise BadKind(1)
        if not are_told(groups):
            raise BadKind(2)
        if not is_mode(must):
            raise BadKind(3)
        if not is_mode(never) or number_of(must) & number_of(never):
            raise BadKind(4)
        self._form = form
        self._owners = ascending(owners)
        self._groups = ascending(groups)
        self._must = Mode(number_of(must))
        self._never = Mode(number_of(never))

    @property
    def form(self):
        return self._form

    @property
    def owners(self):
        return self._owners

    @property
    def groups(self):
        return self._groups

    @property
    def must(self):
        return self._must

    @property
    def never(self):
        return self._never

    def lets_names(self, owner, group):
        """Whether the owner and the group of an entry are among the told ones."""
        owned = self._owners is None or owner in self._owners
        return owned and (self._groups is None or group in self._groups)

    def lets(self, form, mode, owner, group):
        """Whether the line lets such an entry."""
        number = number_of(mode)
        must = self._must.number
        if form != self._form or not self.lets_names(owner, group):
            return False
        return number & must == must and number & self._never.number == 0

    def patterns(self, letter):
        """The patterns of a letter that the line lets, ascending."""
        weight = weight_of(letter)
        must = pattern_in(self._must.number, weight)
        never = pattern_in(self._never.number, weight)
        return [pattern for pattern in PATTERNS if pattern & must == must and pattern & never == 0]

    def __eq__(self, other):
        return (
            isinstance(other, Line)
            and self._form == other._form
            and self._owners == other._owners
            and self._groups == other._groups
            and self._must == other._must
            and self._never == other._never
        )


def line_of_both(one, other):
    """The line that lets what two lines of one form let, or None if that is nothing."""
    owners = in_common(one.owners, other.owners)
    groups = in_common(one.groups, other.groups)
    must = one.must.number | other.must.number
    never = one.never.number | other.never.number
    if owners == () or groups == () or must & never:
        return None
    return Line(one.form, owners, groups, must, never)


class Kind:
    """A kind of trees: all trees each of whose entries a line lets. It never changes."""

    MOST = 4

    def __init__(self, *lines):
        if len(lines) > Kind.MOST:
            raise TooMany(Kind.MOST)
        if len(lines) == 0:
            raise BadKind(0)
        for at, line in enumerate(lines):
            if not isinstance(line, Line):
                raise BadKind(at)
        self._lines = lines

    @classmethod
    def every(cls):
        """The kind of all trees."""
        return cls(Line("file"), Line("folder"))

    @property
    def lines(self):
        return self._lines

    def lets(self, form, mode, owner, group):
        """Whether a line lets such an entry."""
        return any([line.lets(form, mode, owner, group) for line in self._lines])

    def __contains__(self, entry):
        return isinstance(entry, Entry) and self.lets(entry.form, entry.mode, entry.owner, entry.group)

    def holds(self, tree):
        """Whether a tree is of the kind."""
        for _, entry in tree.entries():
            if entry not in self:
                return False
        return True

    def __or__(self, other):
        if not isinstance(other, Kind):
            return NotImplemented
        more = [line for line in other._lines if line not in self._lines]
        lines = self._lines + tuple(more)
        return Kind(*lines)

    def __and__(self, other):
        if not isinstance(other, Kind):
            return NotImplemented
        lines = []
        for one in self._lines:
            for two in other._lines:
                both = line_of_both(one, two) if one.form == two.form else None
                if both is not None and both not in lines:
                    lines.append(both)
        if lines == []:
            raise NoKind()
        return Kind(*lines)

    def folder_modes(self, owner, group):
        """The Modes of such folders that a line lets, with w only where it must stand, ascending."""
        numbers = {}
        for line in self._lines:
            if line.form == "folder" and line.lets_names(owner, group):
                writes = bits_of(line.must.pattern("w"), 2)
                for read in line.patterns("r"):
                    for enter in line.patterns("x"):
                        numbers[bits_of(read, 4) | writes | bits_of(enter, 1)] = True
        return [Mode(number) for number in sorted(numbers)]

    def __eq__(self, other):
        return isinstance(other, Kind) and self._lines == other._lines


def told_kind(kind):
    """The kind that is asked for: every one, if None is passed."""
    return Kind.every() if kind is None else kind
