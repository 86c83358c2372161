"""The words of the lines of written forms, and what they tell; a word that cannot stand is refused with its place."""

from modesdown.changes import FORMS, Change
from modesdown.checks import is_name
from modesdown.commands import START_NAMES, Command
from modesdown.errors import BadClause, BadText, TooMany
from modesdown.kinds import Kind, Line
from modesdown.modes import NINE_SIGNS, Mode
from modesdown.paths import is_path, names_in
from modesdown.users import Chief, User

USERS = 3
DIGITS = "0123456789"
DIGITS_TO_SEVEN = "01234567"


class Words:
    """The words of a line; it has a number, and perhaps words ahead of these, which count."""

    def __init__(self, text, number=0, ahead=0):
        self._words = text.split(" ")
        self._number = number
        self._ahead = ahead

    def take(self, k):
        """Word k; a missing one is refused, at the number of the words."""
        self.want(len(self._words), k < len(self._words))
        return self._words[k]

    def rest(self, k):
        """The words from word k on."""
        return self._words[k:]

    def want(self, k, fits):
        """Refuses word k, unless it fits."""
        if not fits:
            raise BadText(self._number, self._ahead + k)

    def end(self, many):
        """Refuses the first word that is too many."""
        self.want(many, len(self._words) <= many)


def lines_of(text):
    """The lines of a text."""
    return [Words(line, number) for number, line in enumerate(text.split("\n"))]


def lines_within(line, k):
    """The lines of the text that is told in a line from word k on, with ; between."""
    ahead = k
    lines = []
    for part in " ".join(line.rest(k)).split(" ; "):
        lines.append(Words(part, 0, ahead))
        ahead = ahead + len(part.split(" ")) + 1
    return lines


def name_in(line, k):
    """The name that word k is."""
    word = line.take(k)
    line.want(k, is_name(word))
    return word


def path_in(line, k):
    """The path that word k tells, . for the top."""
    word = line.take(k)
    line.want(k, word != "" and (word == "." or is_path(word)))
    return "" if word == "." else word


def is_nine(text):
    """Whether a text has the nine signs of a mode."""
    return len(text) == len(NINE_SIGNS) and all([one in ("-", sign) for one, sign in zip(text, NINE_SIGNS)])


def mode_in(line, k):
    """The Mode whose nine signs word k has."""
    word = line.take(k)
    line.want(k, is_nine(word))
    return Mode.read(word)


def number_in(line, k, most):
    """The number of at most so many digits, without leading zeros, that word k tells."""
    word = line.take(k)
    line.want(k, 1 <= len(word) <= most and all([digit in DIGITS for digit in word]))
    line.want(k, word == "0" or word[0] != "0")
    return int(word)


def change_in(line, k):
    """The Change whose text word k is."""
    word = line.take(k)
    found = None
    try:
        found = Change.read(word)
    except (BadClause, TooMany):
        line.want(k, False)
    return found


def user_in(line):
    """The user that a line tells."""
    name = name_in(line, 1)
    groups = line.rest(2)
    for at, group in enumerate(groups):
        line.want(2 + at, at < User.GROUPS and is_name(group) and group not in groups[:at])
    return Chief(name, *groups) if line.take(0) == "chief" else User(name, *groups)


def command_in(line, users):
    """The command that a line tells, by one of these users, told by their names."""
    name = line.take(1)
    line.want(1, name in users)
    order = line.take(2)
    line.want(2, order in Command.ORDERS)
    kinds = line.take(3)
    line.want(3, kinds in Command.KINDS)
    start = path_in(line, 4)
    line.want(4, len(names_in(start)) <= START_NAMES)
    change = change_in(line, 5)
    line.end(6)
    return Command(users[name], change, order, kinds, start)


def names_told(line, k):
    """The one or two names that word k tells, or None for any."""
    word = line.take(k)
    if word == "*":
        return None
    names = word.split(",")
    line.want(k, len(names) <= 2 and all([is_name(name) for name in names]) and names == sorted(set(names)))
    return names


def digits_in(line, k):
    """The number of the mode whose three digits word k has."""
    word = line.take(k)
    line.want(k, len(word) == 3 and all([digit in DIGITS_TO_SEVEN for digit in word]))
    return int(word, 8)


def kind_line_in(line):
    """The line of a kind that a line tells."""
    form = line.take(0)
    line.want(0, form in FORMS)
    owners = names_told(line, 1)
    groups = names_told(line, 2)
    must = digits_in(line, 3)
    never = digits_in(line, 4)
    line.want(4, must & never == 0)
    line.end(5)
    return Line(form, owners, groups, must, never)


def kind_in(lines):
    """The kind that some lines tell."""
    told = []
    for line in lines:
        line.want(0, len(told) < Kind.MOST)
        told.append(kind_line_in(line))
    return Kind(*told)
