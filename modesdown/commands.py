"""Commands, and rows of commands that are done one after another."""

from modesdown.changes import Change
from modesdown.checks import is_whole, is_whole_to
from modesdown.errors import BadCommand, NoCommand, TooMany
from modesdown.paths import is_path, names_in
from modesdown.users import User
from modesdown.walks import events_of

START_NAMES = 3


class Command:
    """A change that a user makes from some place down. It never changes."""

    ORDERS = ("first", "last")
    KINDS = ("all", "folders", "files")

    def __init__(self, user, change, order="first", kinds="all", start=""):
        if not isinstance(user, User):
            raise BadCommand("user")
        if not isinstance(change, Change):
            raise BadCommand("change")
        if order not in Command.ORDERS:
            raise BadCommand("order")
        if kinds not in Command.KINDS:
            raise BadCommand("kinds")
        if not is_path(start) or len(names_in(start)) > START_NAMES:
            raise BadCommand("start")
        self._user = user
        self._change = change
        self._order = order
        self._kinds = kinds
        self._start = start

    @property
    def user(self):
        return self._user

    @property
    def change(self):
        return self._change

    @property
    def order(self):
        return self._order

    @property
    def kinds(self):
        return self._kinds

    @property
    def start(self):
        return self._start

    def means(self, form):
        """Whether entries of a form are among the command's kinds."""
        return self._kinds == "all" or self._kinds == f"{form}s"

    def may(self, entry):
        """Whether the command means an entry, and its user may change it."""
        return self.means(entry.form) and self._user.may_change(entry.owner)

    def __call__(self, tree):
        """Does the command to the tree itself; the list of its events."""
        return list(events_of(self, tree))

    def __add__(self, other):
        return Row(self) + other

    def __mul__(self, k):
        return Row(self) * k

    def __rmul__(self, k):
        return Row(self) * k

    def __eq__(self, other):
        return (
            isinstance(other, Command)
            and self._user == other._user
            and self._change == other._change
            and self._order == other._order
            and self._kinds == other._kinds
            and self._start == other._start
        )


class Row:
    """Commands that are done one after another. It never changes."""

    MOST = 10

    def __init__(self, *commands):
        if len(commands) > Row.MOST:
            raise TooMany(Row.MOST)
        self._commands = commands

    def __len__(self):
        return len(self._commands)

    def __getitem__(self, k):
        if not is_whole_to(k, len(self._commands) - 1):
            raise NoCommand(k)
        return self._commands[k]

    def __iter__(self):
        raise TypeError("take the commands of a row by their indexes")

    def __eq__(self, other):
        return isinstance(other, Row) and self._commands == other._commands

    def __add__(self, other):
        if isinstance(other, Command):
            return Row(*self._commands, other)
        if not isinstance(other, Row):
            return NotImplemented
        commands = self._commands + other._commands
        return Row(*commands)

    def __mul__(self, k):
        if not is_whole(k):
            return NotImplemented
        # Ahead of the product, which must not be made when it is huge.
        if len(self._commands) * k > Row.MOST:
            raise TooMany(Row.MOST)
        commands = self._commands * (k if self._commands else 0)
        return Row(*commands)

    def __rmul__(self, k):
        return self * k

    def without(self, k):
        """The row less one command."""
        if not is_whole_to(k, len(self._commands) - 1):
            raise NoCommand(k)
        commands = self._commands[:k] + self._commands[k + 1:]
        return Row(*commands)

    def __call__(self, tree):
        """Does all commands to the tree itself; the list of the lists of their events."""
        return [command(tree) for command in self._commands]

    def play(self, tree):
        """Yields the pairs (index of the command, event), each as soon as it has happened."""
        for k, command in enumerate(self._commands):
            for event in events_of(command, tree):
                yield (k, event)
