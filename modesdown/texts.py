"""Written forms of trees, rows and kinds, and a report on a row."""

from modesdown.commands import Row
from modesdown.errors import BadText
from modesdown.foldertypes import users_of
from modesdown.kinds import told_kind
from modesdown.lasting import never_lost
from modesdown.modes import Mode
from modesdown.reading import (
    USERS, command_in, is_nine, kind_in, lines_of, name_in, path_in, user_in,
)
from modesdown.standing import starts_of
from modesdown.stands import Stands
from modesdown.trees import Tree
from modesdown.users import Chief


def write_tree(tree):
    """The text of a tree."""
    return "\n".join([entry_text(row) for row in tree.rows()])


def write_row(row):
    """The text of a row: its users by their names, then its commands."""
    if len(row) == 0:
        return "none"
    users = users_of((row,))
    lines = []
    for name in sorted(set([user.name for user in users])):
        lines.extend([user_text(user) for user in users if user.name == name])
    lines.extend([f"do {command_text(row[at])}" for at in range(len(row))])
    return "\n".join(lines)


def write_kind(kind):
    """The text of a kind."""
    return "\n".join([kind_line_text(line) for line in kind.lines])


def read_tree(text):
    """The tree that has this text."""
    forms = {}
    rows = []
    for line in lines_of(text):
        line.want(0, len(rows) < Tree.ENTRIES)
        row = tree_row_in(line, forms)
        forms[row[0]] = row[1]
        rows.append(row)
    return Tree.of(*rows)


def read_row(text):
    """The row that has this text."""
    lines = lines_of(text)
    if lines[0].take(0) == "none":
        lines[0].end(1)
        for line in lines[1:]:
            line.want(0, False)
        return Row()
    users = {}
    commands = []
    for line in lines:
        word = line.take(0)
        line.want(0, word in ("user", "chief", "do"))
        if word == "do":
            line.want(0, len(commands) < Row.MOST)
            commands.append(command_in(line, users))
        else:
            line.want(0, commands == [] and len(users) < USERS)
            line.want(1, line.take(1) not in users)
            user = user_in(line)
            users[user.name] = user
    if commands == []:
        raise BadText(len(lines), 0)
    return Row(*commands)


def read_kind(text):
    """The kind that has this text."""
    return kind_in(lines_of(text))


def report(row, kind=None):
    """A line for each joint stand of a row on a kind, and whether the row loses its way."""
    stands = Stands(told_kind(kind), row)
    lines = [stand_text(row, joint[0]) for joint in stands.listed]
    verdict = never_lost(row, kind)
    lines.append("never lost" if verdict else f"lost at {len(verdict.chain)}")
    return lines


def dotted(path):
    """A path as a word."""
    return "." if path == "" else path


def entry_text(row):
    """The line of one row of a tree."""
    path, form, number, owner, group = row
    sign = "d" if form == "folder" else "-"
    return f"{sign}{str(Mode(number))} {owner} {group} {dotted(path)}"


def user_text(user):
    """The line of a user."""
    word = "chief" if isinstance(user, Chief) else "user"
    return " ".join([word, user.name] + list(user.groups))


def command_text(command):
    """The line of a command, without its first word."""
    return f"{command.user.name} {command.order} {command.kinds} {dotted(command.start)} {str(command.change)}"


def kind_line_text(line):
    """The line of a line of a kind."""
    owners = names_text(line.owners)
    groups = names_text(line.groups)
    return f"{line.form} {owners} {groups} {line.must.number:03o} {line.never.number:03o}"


def names_text(names):
    """The word of one or two names, or of None."""
    return "*" if names is None else ",".join(names)


def stand_text(row, stand):
    """The line of a stand in a report."""
    told = []
    for names, number in zip(starts_of(row), stand):
        if number == -1:
            told.append("-")
        else:
            told.append("in" if number == len(names) else str(number))
    return " ".join(told)


def tree_row_in(line, forms):
    """The row of a tree that a line tells, behind those entries whose forms are told by their paths."""
    word = line.take(0)
    signs = {"d": "folder", "-": "file"} if forms else {"d": "folder"}
    line.want(0, word[:1] in signs and is_nine(word[1:]))
    owner = name_in(line, 1)
    group = name_in(line, 2)
    path = path_in(line, 3)
    above, _, _ = path.rpartition("/")
    line.want(3, path not in forms and forms.get(above) == "folder" if forms else path == "")
    line.end(4)
    return (path, signs[word[:1]], Mode.read(word[1:]), owner, group)
