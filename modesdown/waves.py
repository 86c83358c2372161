"""Blocks of folders that hold a row back for some rounds, so that it goes down a chain of them like a wave."""

from modesdown.changes import FORMS
from modesdown.checks import is_name, is_whole, is_whole_to
from modesdown.errors import BadCommand, NoCommand
from modesdown.feeding import Feeder
from modesdown.foldertypes import folder_types, groups_for, owners_for, users_of
from modesdown.kinds import told_kind
from modesdown.modes import Mode, number_of
from modesdown.paths import joined
from modesdown.standing import top_stand
from modesdown.trees import Tree, made_entry
from modesdown.users import Chief
from modesdown.words import behind


def fed(row, block, *words):
    """The yields of a block that is fed with these words, round by round."""
    refuse_starts(row)
    for word in words:
        for index in word:
            if not is_whole_to(index, len(row) - 1):
                raise NoCommand(index)
    feeder = Feeder(row)
    folders = folders_of(block)
    yields = []
    for word in words:
        folders, yielded = feeder.fed_once(folders, word)
        yields.append(yielded)
    return yields


def wave(row, kind, deep=2):
    """The first block that delays, by how many rounds it does, and the first entry that the row changes; or None."""
    refuse_starts(row)
    users = users_of((row,))
    if len(users) > 1:
        raise BadCommand("user")
    if users == []:
        return None
    asked = told_kind(kind)
    found = first_delay(row, users[0], asked, deep)
    if found is None:
        return None
    entry = first_changed(row, users[0], asked)
    return None if entry is None else (*found, entry)


def shows_wave(row, kind, thing):
    """Whether a thing is a block of the kind that delays, by how many rounds it does, and an entry that is changed."""
    refuse_starts(row)
    if not isinstance(thing, tuple) or len(thing) != 3:
        return False
    block, many, entry = thing
    if not is_block(block) or not is_whole(many) or not is_told(entry):
        return False
    asked = told_kind(kind)
    if not all([asked.lets(*one) for one in (*block, entry)]):
        return False
    feeder = Feeder(row)
    return feeder.delay(folders_of(block)) == many and is_changed(row, entry)


def wave_chain(block, entry, times):
    """A chain of so many blocks, and then the entry."""
    path = ""
    rows = []
    for told in list(block) * times + [entry]:
        rows.append((path, *told))
        path = joined(path, "q")
    return Tree.of(*rows)


def refuse_starts(row):
    """Refuses a row with a start that is not the top."""
    for at in range(len(row)):
        if row[at].start != "":
            raise BadCommand("start")


def folders_of(block):
    """The folders of a block as a Feeder takes them, with the numbers of their modes."""
    return tuple([(number_of(mode), owner, group) for _, mode, owner, group in block])


def is_told(value):
    """Whether a value is a tuple of a form, a Mode, an owner and a group."""
    if not isinstance(value, tuple) or len(value) != 4:
        return False
    form, mode, owner, group = value
    return form in FORMS and isinstance(mode, Mode) and is_name(owner) and is_name(group)


def is_block(value):
    """Whether a value is a tuple of one or two such tuples of folders."""
    if not isinstance(value, tuple) or not 1 <= len(value) <= 2:
        return False
    return all([is_told(one) and one[0] == "folder" for one in value])


def is_changed(row, told):
    """Whether an entry has another mode behind a row, all of whose commands come to it."""
    form, mode, owner, group = told
    return behind(row, top_stand(row), made_entry(form, mode, owner, group)) != number_of(mode)


def conduct(user, one):
    """What plays a part of a folder type: blocks of folders that have the same here yield the same to one user."""
    if isinstance(user, Chief) or not user.may_change(one.owner):
        return (one.lists(user),)
    return (one.mode.pattern("r"), one.mode.pattern("x"))


def first_delay(row, user, kind, deep):
    """The first block of the kind that delays, and by how many rounds it does; or None."""
    first = {}
    for one in folder_types(kind, row):
        first.setdefault(conduct(user, one), ("folder", one.mode, one.owner, one.group))
    folders = list(first.values())
    blocks = [(one,) for one in folders]
    if deep == 2:
        blocks.extend([(one, other) for one in folders for other in folders])
    feeder = Feeder(row)
    for block in blocks:
        many = feeder.delay(folders_of(block))
        if many is not None:
            return (block, many)
    return None


def first_changed(row, user, kind):
    """The first entry that the kind lets and the row changes, or None."""
    for form in FORMS:
        for owner in owners_for(kind, (row,)):
            if user.may_change(owner):
                changed = [mode for mode in range(Mode.MOST + 1) if is_changed(row, (form, mode, owner, owner))]
                for group in groups_for(kind, (row,)):
                    for mode in changed:
                        if kind.lets(form, mode, owner, group):
                            return (form, Mode(mode), owner, group)
    return None
