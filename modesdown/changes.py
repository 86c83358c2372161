"""Clauses and changes: what a command does to the mode of a file or of a folder."""

from modesdown.checks import is_choice
from modesdown.errors import BadClause, TooMany
from modesdown.modes import Mode, WEIGHTS, bits_of, number_of, pattern_in

FORMS = ("file", "folder")
SIGNS = ("+", "-", "=")
# The bit of a class in a pattern.
CLASSES = {"u": 4, "g": 2, "o": 1}
PATTERNS = (0, 1, 2, 3, 4, 5, 6, 7)
# The letter and the form of each part of a table. Forms play no part for r and w.
PARTS = (("r", "file"), ("w", "file"), ("x", "file"), ("x", "folder"))


def is_meant(what, letter, pattern, form):
    """Whether a what means a letter, in a mode in which the letter has this pattern."""
    if what in CLASSES:
        return pattern & CLASSES[what] != 0
    if letter in what:
        return True
    return letter == "x" and "X" in what and (form == "folder" or pattern != 0)


def pattern_behind(mask, sign, meant, pattern):
    """The pattern of a letter behind a clause for the classes of the mask."""
    if meant:
        return pattern & (7 - mask) if sign == "-" else pattern | mask
    return pattern & (7 - mask) if sign == "=" else pattern


def part_of(who, sign, what, letter, form):
    """One part of the table of a clause."""
    mask = sum([CLASSES[told] for told in who])
    return tuple([pattern_behind(mask, sign, is_meant(what, letter, pattern, form), pattern) for pattern in PATTERNS])


def in_turn(one, other):
    """The tables that do what one does, then what other does, as many parts as they have."""
    return tuple([tuple([later[pattern] for pattern in first]) for first, later in zip(one, other)])


def tables_of(clauses):
    """The table of clauses that are done in order."""
    tables = (PATTERNS, PATTERNS, PATTERNS, PATTERNS)
    for clause in clauses:
        tables = in_turn(tables, clause._tables)
    return tables


def parts_for(tables, form):
    """The three parts of a table that tell of one form: of r, of w, of x."""
    return (tables[0], tables[1], tables[2 if form == "file" else 3])


def number_behind(tables, number, form):
    """The number of the mode that a table makes of the mode with this number."""
    reads, writes, enters = parts_for(tables, form)
    return (
        bits_of(reads[pattern_in(number, 4)], 4)
        | bits_of(writes[pattern_in(number, 2)], 2)
        | bits_of(enters[pattern_in(number, 1)], 1)
    )


def letters_of(digit):
    """The plain letters of a digit."""
    return "".join([letter for letter in "rwx" if digit & WEIGHTS[letter]])


class Clause:
    """A clause. It never changes."""

    def __init__(self, who, sign, what):
        if who != "a" and (who == "" or not is_choice(who, "ugo")):
            raise BadClause(0)
        if sign not in SIGNS:
            raise BadClause(1)
        if what not in ("u", "g", "o") and not is_choice(what, "rwxX"):
            raise BadClause(2)
        self._who = "ugo" if who == "a" else who
        self._sign = sign
        self._what = what
        self._tables = tuple([part_of(self._who, sign, what, letter, form) for letter, form in PARTS])

    @classmethod
    def read(cls, text):
        """The clause with this text."""
        if not isinstance(text, str):
            raise BadClause(1)
        for at, sign in enumerate(text):
            if sign in SIGNS:
                return cls(text[:at], sign, text[at + 1:])
        raise BadClause(1)

    @property
    def who(self):
        return self._who

    @property
    def sign(self):
        return self._sign

    @property
    def what(self):
        return self._what

    def __call__(self, mode, form):
        """The Mode behind the clause."""
        return Mode(number_behind(self._tables, number_of(mode), form))

    def __eq__(self, other):
        return (
            isinstance(other, Clause)
            and self._who == other._who
            and self._sign == other._sign
            and self._what == other._what
        )

    def __str__(self):
        who = "a" if self._who == "ugo" else self._who
        return f"{who}{self._sign}{self._what}"


class Change:
    """Clauses that are done in order. It never changes."""

    MOST = 8

    def __init__(self, *clauses):
        if len(clauses) > Change.MOST:
            raise TooMany(Change.MOST)
        if len(clauses) == 0:
            raise BadClause(0)
        for at, clause in enumerate(clauses):
            if not isinstance(clause, Clause):
                raise BadClause(at)
        self._clauses = clauses
        self._tables = tables_of(clauses)

    @classmethod
    def read(cls, text):
        """The change with this text."""
        if not isinstance(text, str):
            raise BadClause(0)
        parts = text.split(",")
        if len(parts) > Change.MOST:
            raise TooMany(Change.MOST)
        clauses = []
        for at, part in enumerate(parts):
            try:
                clauses.append(Clause.read(part))
            except BadClause:
                raise BadClause(at) from None
        return cls(*clauses)

    @staticmethod
    def setting(mode):
        """The change of three clauses that gives every entry this mode."""
        owner, group, others = Mode(number_of(mode)).digits
        return Change(
            Clause("u", "=", letters_of(owner)),
            Clause("g", "=", letters_of(group)),
            Clause("o", "=", letters_of(others)),
        )

    @property
    def clauses(self):
        return self._clauses

    @property
    def tables(self):
        return self._tables

    def __call__(self, mode, form):
        """The Mode behind all clauses."""
        return Mode(number_behind(self._tables, number_of(mode), form))

    def __mul__(self, other):
        if not isinstance(other, Change):
            return NotImplemented
        clauses = self._clauses + other._clauses
        return Change(*clauses)

    def like(self, other):
        """Whether both do the same to all modes of files and of folders."""
        return self._tables == other._tables

    def cycle(self, form):
        """The least lead, and with it the least period, behind which the change does the same again."""
        once = parts_for(self._tables, form)
        so_far = (PATTERNS, PATTERNS, PATTERNS)
        seen = {}
        # What stood there before stands there again with the same steps behind it,
        # so the first one that comes again ends the lead and the period.
        while so_far not in seen:
            seen[so_far] = len(seen)
            so_far = in_turn(so_far, once)
        lead = seen[so_far]
        return (lead, len(seen) - lead)

    def __eq__(self, other):
        return isinstance(other, Change) and self._clauses == other._clauses

    def __str__(self):
        return ",".join([str(clause) for clause in self._clauses])


def parting(one, other):
    """The first form, and its least uniform Mode, on which two changes part; None if they never do."""
    for form in FORMS:
        for pattern in PATTERNS:
            mode = Mode.uniform(pattern)
            if one(mode, form) != other(mode, form):
                return (form, mode)
    return None
