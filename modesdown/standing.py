"""Stands: how far each command of a row is at an entry, and whether a value is such a thing."""

from modesdown.checks import LETTERS, is_whole
from modesdown.paths import names_in


def starts_of(row):
    """The names of the start of each command, list by list."""
    return [names_in(row[at].start) for at in range(len(row))]


def wrong_index(row, stand):
    """The first index at which a value is no stand of a row, or None."""
    if not isinstance(stand, tuple):
        return 0
    for at, (names, number) in enumerate(zip(starts_of(row), stand)):
        if not is_whole(number) or not -1 <= number <= len(names):
            return at
    if len(stand) != len(row):
        return min(len(stand), len(row))
    return None


def top_stand(row):
    """The stand at the top of a tree."""
    return (0,) * len(row)


def top_joint(rows):
    """The joint stand of some rows at the top of a tree."""
    return tuple([top_stand(row) for row in rows])


def word_in(stand):
    """The indexes of the commands that come to an entry with this stand."""
    return tuple([at for at, number in enumerate(stand) if number != -1])


def next_number(names, number, name):
    """What stands for a command that goes on to an entry with this name, and has these names as its start."""
    if number == len(names):
        return number
    return number + 1 if names[number] == name else -1


def names_ahead(row, stand):
    """The next names of the starts of the commands that are on the way, ascending."""
    ahead = [names[number] for names, number in zip(starts_of(row), stand) if 0 <= number < len(names)]
    return sorted(set(ahead))


def name_beside(names):
    """The first of a, b, c and so on that is not among some names, behind z with two letters."""
    longer = [one + two for one in LETTERS for two in LETTERS] if len(names) >= len(LETTERS) else []
    return [name for name in list(LETTERS) + longer if name not in names][0]
