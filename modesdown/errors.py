"""All errors of the package, with their fields."""


class ModesError(ValueError):
    """The base class of all errors."""


class BadInput(ModesError):
    """Something that was passed is wrong."""


class NoWay(ModesError):
    """What was asked for is not there or cannot be."""


class BadMode(BadInput):
    """This part of a mode is wrong."""

    def __init__(self, part):
        self.part = part


class BadClause(BadInput):
    """The part of a clause, or the clause of a change, with this index is wrong."""

    def __init__(self, at):
        self.at = at


class BadName(BadInput):
    """This is not a name."""

    def __init__(self, name):
        self.name = name


class BadPath(BadInput):
    """This is not a path."""

    def __init__(self, path):
        self.path = path


class BadUser(BadInput):
    """This part of a user, or the user with this index, is wrong."""

    def __init__(self, part):
        self.part = part


class BadCommand(BadInput):
    """This part of a command, or of a question about commands, is wrong."""

    def __init__(self, part):
        self.part = part


class BadKind(BadInput):
    """The part of a line, or the line of a kind, with this index is wrong."""

    def __init__(self, at):
        self.at = at


class BadStand(BadInput):
    """A stand is wrong at this index."""

    def __init__(self, index):
        self.index = index


class BadBeat(BadInput):
    """This part of a beat is wrong."""

    def __init__(self, part):
        self.part = part


class BadText(BadInput):
    """This word of this line of a text cannot stand there."""

    def __init__(self, line, word):
        self.line = line
        self.word = word


class NoEntry(NoWay):
    """There is no entry with this path."""

    def __init__(self, path):
        self.path = path


class NoCommand(NoWay):
    """There is no command with this index."""

    def __init__(self, index):
        self.index = index


class NoStand(NoWay):
    """This joint stand does not come about."""

    def __init__(self, joint):
        self.joint = joint


class TooMany(NoWay):
    """There would be more than so many."""

    def __init__(self, most):
        self.most = most


class NoKind(NoWay):
    """Two kinds have nothing in common."""

    def __init__(self):
        pass
