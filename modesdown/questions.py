"""Questions about all trees of a kind: which joint stands are next to which.

The patterns of r and of x move each by itself. So the commands are played on the eight patterns of
either letter, and what they do to a folder of any mode is put together from two of these plays.
"""

from modesdown.changes import PATTERNS
from modesdown.checks import LETTERS
from modesdown.foldertypes import groups_for, owners_for, users_of
from modesdown.modes import bits_of
from modesdown.paths import names_in
from modesdown.standing import name_beside, next_number
from modesdown.users import Chief

CLASS_BITS = {"owner": 4, "group": 2, "others": 1}
# A bit that stands beside every pattern, for those who need no letter.
ALWAYS = 8


class Deed:
    """One command of a question, with a bit of its own."""

    def __init__(self, command, bit, user):
        tables = command.change.tables
        self._bit = bit
        self._user = user
        self._first = command.order == "first"
        self._folders = command.means("folder")
        self._reads = tables[0]
        self._enters = tables[3]
        self._names = names_in(command.start)


class Gate:
    """The folders of an owner and a group that one line lets."""

    def __init__(self, owner, group, line):
        self._owner = owner
        self._group = group
        self._reads = line.patterns("r")
        self._writes = line.must.pattern("w")
        self._enters = line.patterns("x")

    def folder(self, read, enter):
        """The mode, an integer, the owner and the group of the folder with these patterns of r and x."""
        mode = bits_of(read, 4) | bits_of(self._writes, 2) | bits_of(enter, 1)
        return (mode, self._owner, self._group)


def standing_of(user, owner, group):
    """The bit of a pattern that tells whether a user has the letter, and whether the user may change."""
    bit = ALWAYS if isinstance(user, Chief) else CLASS_BITS[user.class_at(owner, group)]
    return (bit, user.may_change(owner))


def gates_of(kind, rows):
    """By how all users stand there: gates, no two of them with the same patterns."""
    users = users_of(rows)
    gates = {}
    seen = {}
    for owner in owners_for(kind, rows):
        for group in groups_for(kind, rows):
            standings = tuple([standing_of(user, owner, group) for user in users])
            for line in kind.lines:
                if line.form == "folder" and line.lets_names(owner, group):
                    key = (standings, tuple(line.patterns("r")), tuple(line.patterns("x")))
                    if key not in seen:
                        seen[key] = True
                        gates.setdefault(standings, []).append(Gate(owner, group, line))
    return gates


def deeds_of(rows):
    """The deeds of each row."""
    users = users_of(rows)
    deeds = []
    many = 0
    for row in rows:
        deeds.append([])
        for at in range(len(row)):
            deeds[-1].append(Deed(row[at], 1 << many, users.index(row[at].user)))
            many = many + 1
    return deeds


def holders(deeds, inside, standings, letter):
    """For each pattern of a letter ahead of a row: the bits of the deeds whose users have it in their turn."""
    masks = [0 for _ in PATTERNS]
    now = PATTERNS
    for deed in deeds:
        bit, may = standings[deed._user]
        later = now
        if may and deed._folders and inside & deed._bit:
            table = deed._reads if letter == "r" else deed._enters
            later = [table[pattern] for pattern in now]
        seen = later if deed._first else now
        masks = [mask | deed._bit if (pattern | ALWAYS) & bit else mask for mask, pattern in zip(masks, seen)]
        now = later
    return masks


def leasts(patterns, masks):
    """By mask: the first of these patterns that has it."""
    found = {}
    for pattern in patterns:
        found.setdefault(masks[pattern], pattern)
    return found


class Question:
    """What is next to what, for some rows on all trees of a kind."""

    def __init__(self, kind, rows):
        self._deeds = deeds_of(rows)
        self._gates = gates_of(kind, rows)
        self._known = {}

    def met(self, joint):
        """The bits of the deeds inside and of those on the way at a joint stand, and the next names of these."""
        inside = 0
        way = 0
        names = {}
        for deeds, stand in zip(self._deeds, joint):
            for deed, number in zip(deeds, stand):
                if number == len(deed._names):
                    inside = inside | deed._bit
                elif number != -1:
                    way = way | deed._bit
                    names[deed._names[number]] = True
        return (inside, way, names)

    def next_to(self, joint):
        """By joint stand next to this one: a folder at which this one is, and the name of the entry below."""
        inside, way, names = self.met(joint)
        fates = self.fates(inside, way)
        found = {}
        for name in sorted(names) + [name_beside(names)]:
            self.add_below(found, fates, joint, name)
        return found

    def lost_at(self, joint):
        """A folder at which this joint stand is, and the name of an entry below at which a command is lost; or None."""
        inside, way, _ = self.met(joint)
        for mask, folder in self.fates(inside, way).items():
            if mask != inside | way:
                return (folder, self.name_lost(joint, (inside | way) - mask))
        return None

    def name_lost(self, joint, bits):
        """The name of an entry at which the first of these deeds is lost, which its folder does not let through."""
        for deeds, stand in zip(self._deeds, joint):
            for deed, number in zip(deeds, stand):
                if deed._bit & bits:
                    return LETTERS[0] if number == len(deed._names) else deed._names[number]
        return None

    def fates(self, inside, way):
        """By the bits of the deeds that a folder lets through: such a folder."""
        found = {}
        for standings, gates in self._gates.items():
            reads = [mask & inside | way for mask in self.plays(inside, standings, "r")]
            enters = [mask & (inside | way) for mask in self.plays(inside, standings, "x")]
            for gate in gates:
                readers = leasts(gate._reads, reads)
                enterers = leasts(gate._enters, enters)
                for one, read in readers.items():
                    for two, enter in enterers.items():
                        if one & two not in found:
                            found[one & two] = gate.folder(read, enter)
        return found

    def plays(self, inside, standings, letter):
        """As holders, for the deeds of all rows together, each row from the same pattern."""
        masks = [0 for _ in PATTERNS]
        for k, deeds in enumerate(self._deeds):
            mine = sum([deed._bit for deed in deeds]) & inside
            key = (k, mine, standings, letter)
            if key not in self._known:
                self._known[key] = holders(deeds, mine, standings, letter)
            masks = [mask | more for mask, more in zip(masks, self._known[key])]
        return masks

    def add_below(self, found, fates, joint, name):
        """Adds what comes about at an entry with this name."""
        numbers = [
            [(deed._bit, next_number(deed._names, number, name) if number != -1 else -1)
             for deed, number in zip(deeds, stand)]
            for deeds, stand in zip(self._deeds, joint)
        ]
        able = sum([bit for told in numbers for bit, number in told if number != -1])
        seen = {}
        for mask, folder in fates.items():
            if mask & able not in seen:
                seen[mask & able] = True
                there = tuple([tuple([number if mask & bit else -1 for bit, number in told]) for told in numbers])
                found.setdefault(there, (folder, name))
