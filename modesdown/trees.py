"""Trees of files and folders, with their modes, owners and groups."""

from modesdown.checks import is_name
from modesdown.errors import BadName, BadPath, NoEntry, TooMany
from modesdown.modes import Mode, number_of
from modesdown.paths import is_path, joined, names_in


class Entry:
    """A file or a folder."""

    def __init__(self, mode, owner, group):
        self._mode = Mode(number_of(mode))
        for name in (owner, group):
            if not is_name(name):
                raise BadName(name)
        self._owner = owner
        self._group = group

    @property
    def mode(self):
        return self._mode

    @property
    def owner(self):
        return self._owner

    @property
    def group(self):
        return self._group

    @property
    def form(self):
        return "folder" if isinstance(self, Holder) else "file"

    def set_mode(self, mode):
        """Gives the entry another mode."""
        self._mode = Mode(number_of(mode))

    def copy(self):
        """An entry of its own, with copies of all that is in it."""
        return copied(self)

    def __eq__(self, other):
        return isinstance(other, Entry) and parts_of(self) == parts_of(other)


class Holder:
    """What has children, entries by their names."""

    def __init__(self):
        self._children = {}

    def names(self):
        """The names of the children, ascending."""
        return sorted(self._children)

    def put(self, name, entry):
        """Puts a copy of an entry in, in the place of what stands there by this name."""
        if not is_name(name):
            raise BadName(name)
        put_into(self, name, entry, size_of(self))

    def __contains__(self, name):
        return is_name(name) and name in self._children

    def __getitem__(self, name):
        if name not in self:
            raise NoEntry(name)
        return self._children[name]

    def __len__(self):
        return len(self._children)

    def __iter__(self):
        raise TypeError("take names() of what has children")


class File(Entry):
    """A file."""

    def __init__(self, mode, owner, group):
        super().__init__(mode, owner, group)


class Folder(Entry, Holder):
    """A folder, with copies of the entries that are handed in."""

    def __init__(self, mode, owner, group, **children):
        super().__init__(mode, owner, group)
        self._children = {}
        for name in sorted(children):
            if not is_name(name):
                raise BadName(name)
        if 1 + sum([size_of(child) for child in children.values()]) > Tree.ENTRIES:
            raise TooMany(Tree.ENTRIES)
        for name, child in children.items():
            self._children[name] = copied(child)


class Tree:
    """A folder as the top, and all that is below it."""

    ENTRIES = 60

    def __init__(self, top):
        if size_of(top) > Tree.ENTRIES:
            raise TooMany(Tree.ENTRIES)
        self._top = copied(top)

    @classmethod
    def of(cls, *rows):
        """The tree with these rows, each folder ahead of what is below it."""
        _, _, mode, owner, group = rows[0]
        made = cls(Folder(mode, owner, group))
        for path, form, mode, owner, group in rows[1:]:
            made.put(path, made_entry(form, mode, owner, group))
        return made

    def entry(self, path):
        """The entry itself that has this path."""
        if not is_path(path):
            raise BadPath(path)
        found = found_at(self._top, path)
        if found is None:
            raise NoEntry(path)
        return found

    def __getitem__(self, path):
        return self.entry(path).mode

    def __setitem__(self, path, mode):
        self.entry(path).set_mode(mode)

    def __contains__(self, path):
        return is_path(path) and found_at(self._top, path) is not None

    def __iter__(self):
        raise TypeError("take entries() of a tree")

    def size(self):
        """The number of entries, the top included."""
        return size_of(self._top)

    def __eq__(self, other):
        return isinstance(other, Tree) and self._top == other._top

    def copy(self):
        """A tree of its own."""
        made = Tree(Folder(0, "a", "a"))
        made._top = copied(self._top)
        return made

    def entries(self):
        """Yields the pairs (path, entry itself), a folder directly ahead of what is in it."""
        yield from pairs_from("", self._top)

    def rows(self):
        """The tuples (path, form, number of the mode, owner, group), in the order of the entries."""
        return [
            (path, entry.form, entry.mode.number, entry.owner, entry.group)
            for path, entry in pairs_from("", self._top)
        ]

    def put(self, path, entry):
        """Puts a copy of an entry at a path, in the place of what stands there."""
        above, name = parted_path(path)
        folder = found_at(self._top, above)
        if not isinstance(folder, Folder):
            raise NoEntry(above)
        put_into(folder, name, entry, size_of(self._top))

    def __iadd__(self, other):
        path, entry = other
        self.put(path, entry)
        return self

    def take_out(self, path):
        """Takes an entry out, with all that is in it, and returns it."""
        above, name = parted_path(path)
        folder = found_at(self._top, above)
        if not isinstance(folder, Folder) or name not in folder:
            raise NoEntry(path)
        return folder._children.pop(name)

    def bar(self, user, path):
        """The path of the first folder above the entry that the user cannot list now, or None."""
        self.entry(path)
        at = ""
        folder = self._top
        for name in names_in(path):
            if not user.lists(folder.mode, folder.owner, folder.group):
                return at
            at = joined(at, name)
            folder = folder[name]
        return None

    def trial(self):
        """What makes all undone that was done to the tree in a with, if an error leaves it."""
        return Trial(self)

    def attempt(self, deed):
        """What a function returns that is called with the tree within a trial."""
        with self.trial() as held:
            return deed(held)


class Trial:
    """One trial of a tree."""

    def __init__(self, tree):
        self._tree = tree
        self._kept = None

    def __enter__(self):
        self._kept = copied(self._tree._top)
        return self._tree

    def __exit__(self, kind, value, trace):
        tree = self._tree
        if kind is not None:
            tree._top = self._kept


def made_entry(form, mode, owner, group):
    """A file, or a folder without entries."""
    if form == "file":
        return File(mode, owner, group)
    return Folder(mode, owner, group)


def size_of(entry):
    """The number of entries of an entry, itself included."""
    if not isinstance(entry, Holder):
        return 1
    return 1 + sum([size_of(child) for child in entry._children.values()])


def copied(entry):
    """An entry of its own, with copies of all that is in it, however many these are."""
    made = made_entry(entry.form, entry.mode, entry.owner, entry.group)
    if isinstance(entry, Holder):
        for name, child in entry._children.items():
            made._children[name] = copied(child)
    return made


def parts_of(entry):
    """All that makes entries equal."""
    children = entry._children if isinstance(entry, Holder) else None
    return (entry.form, entry.mode, entry.owner, entry.group, children)


def put_into(holder, name, entry, many):
    """Puts a copy into a holder, where as many entries as told are there in all."""
    given_up = size_of(holder[name]) if name in holder else 0
    if many - given_up + size_of(entry) > Tree.ENTRIES:
        raise TooMany(Tree.ENTRIES)
    holder._children[name] = copied(entry)


def found_at(top, path):
    """The entry with this path below a top, or None."""
    entry = top
    for name in names_in(path):
        if not isinstance(entry, Holder) or name not in entry:
            return None
        entry = entry[name]
    return entry


def parted_path(path):
    """The path of the folder above, and the last name; the top has none."""
    if path == "" or not is_path(path):
        raise BadPath(path)
    above, _, name = path.rpartition("/")
    return (above, name)


def pairs_from(path, entry):
    """The pairs (path, entry itself) of an entry with this path and all that is below it."""
    pairs = [(path, entry)]
    if isinstance(entry, Holder):
        for name in entry.names():
            pairs.extend(pairs_from(joined(path, name), entry[name]))
    return pairs
