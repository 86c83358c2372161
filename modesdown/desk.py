"""A desk: a tree, users, two rows and a kind, asked and changed by lines of text."""

from modesdown.alike import alike, at_most
from modesdown.commands import Row
from modesdown.errors import NoCommand
from modesdown.far import far_mode
from modesdown.kinds import Kind
from modesdown.lasting import never_lost, settles
from modesdown.modes import Mode
from modesdown.reading import (
    USERS, Words, command_in, kind_in, lines_within, mode_in, number_in, path_in, user_in,
)
from modesdown.texts import command_text, dotted, write_row, write_tree
from modesdown.words import word_of

NUMBER_DIGITS = 60


class Keeping:
    """All that a desk keeps."""

    def __init__(self, tree, users, row, kept, kind):
        self._tree = tree
        self._users = users
        self._row = row
        self._kept = kept
        self._kind = kind

    def copy(self):
        """One that may be changed by itself."""
        return Keeping(self._tree.copy(), dict(self._users), self._row, self._kept, self._kind)


def put_user(keeping, line):
    name = line.take(1)
    line.want(1, name in keeping._users or len(keeping._users) < USERS)
    keeping._users[name] = user_in(line)
    return "ok"


def do_command(keeping, line):
    command = command_in(line, keeping._users)
    events = command(keeping._tree)
    return ", ".join([event_text(event) for event in events])


def add_command(keeping, line):
    keeping._row = keeping._row + command_in(line, keeping._users)
    return f"command {len(keeping._row) - 1}"


def drop_command(keeping, line):
    line.end(1)
    last = len(keeping._row) - 1
    if last < 0:
        raise NoCommand(0)
    dropped = keeping._row[last]
    keeping._row = keeping._row.without(last)
    return command_text(dropped)


def run_row(keeping, line):
    line.end(1)
    before = keeping._tree.rows()
    row = keeping._row
    row(keeping._tree)
    changed = [one for one, other in zip(before, keeping._tree.rows()) if one != other]
    return f"{len(changed)} changed"


def set_mode_at(keeping, line):
    path = path_in(line, 1)
    mode = mode_in(line, 2)
    line.end(3)
    keeping._tree[path] = mode
    return "ok"


def mode_at(keeping, line):
    path = path_in(line, 1)
    line.end(2)
    return str(keeping._tree[path])


def word_at(keeping, line):
    path = path_in(line, 1)
    line.end(2)
    found = word_of(keeping._row, keeping._tree, path)
    return "none" if found == () else " ".join([str(at) for at in found])


def keep_row(keeping, line):
    line.end(1)
    keeping._kept = keeping._row
    return "ok"


def put_kind(keeping, line):
    keeping._kind = kind_in(lines_within(line, 1))
    return "ok"


def ask_alike(keeping, line):
    line.end(1)
    return verdict_text(alike(keeping._row, keeping._kept, keeping._kind), "yes", "no")


def ask_at_most(keeping, line):
    line.end(1)
    return verdict_text(at_most(keeping._row, keeping._kept, keeping._kind), "yes", "no")


def ask_lost(keeping, line):
    line.end(1)
    return verdict_text(never_lost(keeping._row, keeping._kind), "never", "lost")


def ask_settles(keeping, line):
    rounds = number_in(line, 1, 1)
    line.end(2)
    found, _ = settles(keeping._row, rounds, keeping._kind)
    return "none" if found is None else str(found)


def ask_far(keeping, line):
    k = number_in(line, 1, NUMBER_DIGITS)
    rounds = number_in(line, 2, NUMBER_DIGITS)
    path = path_in(line, 3)
    line.end(4)
    command = keeping._row[k]
    return str(far_mode(keeping._tree, command, path, rounds))


def tell_tree(keeping, line):
    line.end(1)
    return in_one_line(write_tree(keeping._tree))


def tell_row(keeping, line):
    line.end(1)
    return in_one_line(write_row(keeping._row))


def event_text(event):
    """The words of an event."""
    what, path, *numbers = event
    return " ".join([what, dotted(path)] + [str(Mode(number)) for number in numbers])


def verdict_text(verdict, held, parted):
    """The answer of a verdict, with the number of the entries of its chain, if it has one."""
    return held if verdict else f"{parted} {len(verdict.chain)}"


def in_one_line(text):
    """A text of more lines, told in one."""
    return text.replace("\n", " ; ")


# What is done with a line, by its first word.
ANSWERS = {
    "user": put_user, "chief": put_user, "do": do_command, "add": add_command, "drop": drop_command, "run": run_row,
    "set": set_mode_at, "mode": mode_at, "word": word_at, "keep": keep_row, "kind": put_kind, "alike": ask_alike,
    "atmost": ask_at_most, "lost": ask_lost, "settles": ask_settles, "far": ask_far, "tree": tell_tree, "row": tell_row,
}


class Desk:
    """A desk, which keeps a copy of a tree, and to begin with no users, rows without commands and the kind of all."""

    def __init__(self, tree):
        self._keeping = Keeping(tree.copy(), {}, Row(), Row(), Kind.every())

    def ask(self, line):
        """Does what a line says, and returns the answer."""
        told = Words(line)
        told.want(0, told.take(0) in ANSWERS)
        answer = ANSWERS[told.take(0)]
        # Another keeping takes this one's place only if no error is raised.
        keeping = self._keeping.copy()
        found = answer(keeping, told)
        self._keeping = keeping
        return found

    def run(self, *lines):
        """The answers to these lines; if one of them raises an error, all stays as it was ahead of the first one."""
        before = self._keeping
        answers = None
        try:
            answers = [self.ask(line) for line in lines]
        finally:
            if answers is None:
                self._keeping = before
        return answers

    def tree_copy(self):
        """A copy of the tree."""
        return self._keeping._tree.copy()

    @property
    def row(self):
        return self._keeping._row

    @property
    def kind(self):
        return self._keeping._kind
