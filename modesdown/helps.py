"""Help: what a user finds in a tree, and what helpers can open for the user by giving r and x."""

from modesdown.changes import Change
from modesdown.commands import Command
from modesdown.errors import BadUser, NoEntry
from modesdown.users import User


def findings(tree, user):
    """Yields the paths of the entries that a user finds, in the order of the tree."""
    gone_into = {}
    for path, entry in tree.entries():
        above, _, _ = path.rpartition("/")
        if path == "" or above in gone_into:
            if entry.form == "folder" and lists_entry(user, entry):
                gone_into[path] = True
            yield path


def helped(tree, user, *helpers):
    """What the user finds with the help of these users; the tree stays."""
    refuse_unlike(helpers)
    made = tree.copy()
    commands = opened_by(made, helpers)
    return Help(made, user, helpers, commands)


def fewest_helpers(tree, user, path, *helpers):
    """The indexes of the fewest helpers with whose help alone the user finds an entry, or None."""
    if path not in tree:
        raise NoEntry(path)
    refuse_unlike(helpers)
    if not is_found_with(tree, user, path, helpers):
        return None
    level = [()]
    while True:
        for indexes in level:
            if is_found_with(tree, user, path, [helpers[at] for at in indexes]):
                return indexes
        level = one_longer(level, len(helpers))


def shows_help(tree, user, helpers, paths, commands, bars):
    """Whether behind these commands of helpers the user finds just these paths, and just these bars stay for good."""
    if not isinstance(commands, (list, tuple)):
        return False
    if not all([is_of_helper(command, helpers) for command in commands]):
        return False
    made = tree.copy()
    for command in commands:
        command(made)
    people = all_of(user, helpers)
    return paths == tuple(findings(made, user)) and bars == bars_in(made, people) and are_for_good(made, helpers, bars)


class Help:
    """What a user finds behind the commands of helpers, which have been done to a tree. It never changes."""

    def __init__(self, tree, user, helpers, commands):
        self._paths = tuple(findings(tree, user))
        self._commands = list(commands)
        self._bars = bars_in(tree, all_of(user, helpers))
        self._whole = len(self._paths) == tree.size()

    @property
    def paths(self):
        return self._paths

    @property
    def commands(self):
        return list(self._commands)

    @property
    def bars(self):
        return list(self._bars)

    def __bool__(self):
        return bool(self._whole)


def refuse_unlike(helpers):
    """Refuses the first helper who is no user or has the name of one ahead."""
    names = []
    for at, helper in enumerate(helpers):
        if not isinstance(helper, User) or helper.name in names:
            raise BadUser(at)
        names.append(helper.name)


def lists_entry(user, entry):
    """Whether a user lists a folder with the mode that it has."""
    return user.lists(entry.mode, entry.owner, entry.group)


def opened_by(tree, helpers):
    """Gives r and x in turns to the tree itself, until no helper can give any more; the commands that gave some."""
    commands = []
    many = -1
    while many < len(commands):
        many = len(commands)
        for helper in helpers:
            command = Command(helper, Change.read("a+rx"), kinds="folders")
            events = command(tree)
            if any([event[0] == "changed" and event[2] != event[3] for event in events]):
                commands.append(command)
    return commands


def is_found_with(tree, user, path, helpers):
    """Whether the user finds an entry with the help of these users; the tree stays."""
    made = tree.copy()
    opened_by(made, helpers)
    return path in list(findings(made, user))


def one_longer(level, many):
    """The ascending tuples of indexes below a number that begin with one of these and have one index more."""
    return [indexes + (at,) for indexes in level for at in range(many) if indexes == () or at > indexes[-1]]


def all_of(user, helpers):
    """The user and the helpers, each once."""
    return [user] + [helper for helper in helpers if helper.name != user.name]


def bars_in(tree, people):
    """The pairs of a name and the path of a folder that this one finds and does not list, ascending."""
    bars = []
    for one in people:
        for path in list(findings(tree, one)):
            entry = tree.entry(path)
            if entry.form == "folder" and not lists_entry(one, entry):
                bars.append((one.name, path))
    return sorted(bars)


def is_of_helper(command, helpers):
    """Whether a value is a command from the top whose user is a helper."""
    return isinstance(command, Command) and command.start == "" and command.user in helpers


def are_for_good(tree, helpers, bars):
    """Whether no helper finds one of these folders and may open it."""
    closed = [path for _, path in bars]
    for helper in helpers:
        for path in list(findings(tree, helper)):
            if path in closed and helper.may_change(tree.entry(path).owner):
                return False
    return True
