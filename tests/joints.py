"""Points 10 to 12 of the document word for word, mode by mode: slow, and made without the package.

Users and commands are tuples as in tests.walker; a kind is a list of tuples (form, owners, groups, must, never).
"""

from tests import oracle, walker

EVERY = [("file", None, None, 0, 0), ("folder", None, None, 0, 0)]


def lets(line, form, mode, owner, group):
    told, owners, groups, must, never = line
    return (
        form == told and (owners is None or owner in owners) and (groups is None or group in groups)
        and mode & must == must and mode & never == 0
    )


def is_let(lines, form, mode, owner, group):
    return any(lets(line, form, mode, owner, group) for line in lines)


def owners_of(lines, rows):
    """The names of the users, the told ones, and one more."""
    names = {command[0][1] for row in rows for command in row}
    names.update(name for line in lines for name in line[1] or ())
    return sorted(names) + ["other"]


def groups_of(lines, rows):
    names = {name for row in rows for command in row for name in command[0][2]}
    names.update(name for line in lines for name in line[2] or ())
    return sorted(names) + ["other"]


def folders(lines, rows, all_modes=False):
    """The folder types as lists, as a tree has them; with all modes, if this is asked for, also those with any w."""
    found = []
    for owner in owners_of(lines, rows):
        for group in groups_of(lines, rows):
            for mode in range(512):
                for line in lines:
                    if lets(line, "folder", mode, owner, group) and (all_modes or mode & 0o222 == line[3] & 0o222):
                        found.append(["folder", mode, owner, group])
                        break
    return found


def names_of(command):
    return command[4].split("/") if command[4] else []


def goes_on(row, stand, folder):
    """Which commands of a row go on below a folder that has this stand, told as point 9 tells it."""
    entry = list(folder)
    going = []
    for command, number in zip(row, stand):
        user, change, order, kinds, start = command
        if number == -1:
            going.append(False)
        elif number < len(names_of(command)):
            going.append(walker.passes(user, entry))
        else:
            before = list(entry)
            if kinds != "files" and walker.may_change(user, entry):
                entry[1] = oracle.image(change, "folder")[entry[1]]
            going.append(walker.lists(user, entry if order == "first" else before))
    return going


def below(row, stand, going, name):
    """The stand at an entry with this name."""
    found = []
    for command, number, on in zip(row, stand, going):
        names = names_of(command)
        if not on:
            found.append(-1)
        elif number == len(names):
            found.append(number)
        else:
            found.append(number + 1 if names[number] == name else -1)
    return tuple(found)


def next_to(types, rows, joint):
    """All joint stands next to one, folder type by folder type."""
    names = {
        names_of(command)[number] for row, stand in zip(rows, joint) for command, number in zip(row, stand)
        if 0 <= number < len(names_of(command))
    }
    names.add(next(name for name in "abcdefghijklmnopqrstuvwxyz" if name not in names))
    patterns = {tuple(tuple(goes_on(row, stand, one)) for row, stand in zip(rows, joint)) for one in types}
    return {
        tuple(below(row, stand, going, name) for row, stand, going in zip(rows, joint, pattern))
        for pattern in patterns for name in names
    }


def top_of(rows):
    return tuple((0,) * len(row) for row in rows)


def levels(lines, rows, all_modes=False):
    """The joint stands of the least closed tuple, by the number of folders above them, each ascending."""
    types = folders(lines, rows, all_modes)
    seen, found, level = set(), [], [top_of(rows)]
    while level:
        reached = set()
        for joint in level:
            reached |= next_to(types, rows, joint)
        level = sorted(reached - seen)
        seen |= reached
        if level:
            found.append(level)
    return found


def left(row, stand, form, owner):
    """What a row makes of all modes of entries of an owner that have this stand."""
    made = list(range(512))
    for command, number in zip(row, stand):
        user, change, order, kinds, start = command
        if number == len(names_of(command)) and kinds in ("all", form + "s") and walker.may_change(user, [0, 0, owner]):
            image = oracle.image(change, form)
            made = [image[mode] for mode in made]
    return made


def parts(lines, one, other, joint, form, mask, at_most):
    """Whether two rows part at a joint stand on some entry of a form: all owners, groups and modes are tried."""
    for owner in owners_of(lines, [one, other]):
        first, second = left(one, joint[0], form, owner), left(other, joint[1], form, owner)
        wrong = [
            mode for mode in range(512)
            if (first[mode] & mask & ~second[mode] if at_most else (first[mode] ^ second[mode]) & mask)
        ]
        for mode in wrong:
            if any(is_let(lines, form, mode, owner, group) for group in groups_of(lines, [one, other])):
                return True
    return False


def least_chain(lines, one, other, mask=0o777, at_most=False):
    """The number of entries of a shortest chain that parts two rows, or None."""
    if not any(line[0] == "folder" for line in lines):
        return None
    if parts(lines, one, other, top_of([one, other]), "folder", mask, at_most):
        return 1
    for k, level in enumerate(levels(lines, [one, other])):
        for joint in level:
            for form in ("file", "folder"):
                if parts(lines, one, other, joint, form, mask, at_most):
                    return k + 2
    return None


def loses(types, row, stand):
    """Whether a command is lost right below some folder type with this stand."""
    for one in types:
        if any(number != -1 and not on for number, on in zip(stand, goes_on(row, stand, one))):
            return True
    return False


def least_lost(lines, row):
    """The number of entries of a shortest chain at whose last entry a command is lost, or None."""
    types = folders(lines, [row])
    for k, level in enumerate([[top_of([row])]] + levels(lines, [row])):
        if any(loses(types, row, stand) for (stand,) in level):
            return k + 2
    return None


def lost_in(row, tree):
    """The paths of a plain tree at which a command is lost, told by walks."""
    stands = walker.played(row, {path: list(entry) for path, entry in tree.items()})[1]
    found = []
    for path in tree:
        above, _, name = path.rpartition("/")
        for k, command in enumerate(row):
            names = names_of(command)
            number = stands[above][k] if path else -1
            if number != -1 and stands[path][k] == -1 and (number == len(names) or names[number] == name):
                found.append(path)
                break
    return found


class Straying:
    """Which entries of a kind are not of a goal behind a row: all owners, groups and modes are tried."""

    def __init__(self, lines, goal, row):
        self.row, self.goal = row, goal
        self.let, self.known = {}, {}
        for form in ("file", "folder"):
            for owner in owners_of(lines + goal, [row]):
                for group in groups_of(lines + goal, [row]):
                    self.let[form, owner, group] = [mode for mode in range(512) if is_let(lines, form, mode, owner, group)]

    def strays(self, stand, form):
        inside = tuple(number == len(names_of(command)) for number, command in zip(stand, self.row))
        if (inside, form) not in self.known:
            self.known[inside, form] = self.some(stand, form)
        return self.known[inside, form]

    def some(self, stand, form):
        for (told, owner, group), modes in self.let.items():
            if told == form and modes:
                made = left(self.row, stand, form, owner)
                if any(not is_let(self.goal, form, behind, owner, group) for behind in {made[mode] for mode in modes}):
                    return True
        return False


def least_stray(lines, goal, row):
    """The number of entries of a shortest chain whose last one is not of the goal behind the row, or None."""
    if not any(line[0] == "folder" for line in lines):
        return None
    straying = Straying(lines, goal, row)
    if straying.strays(top_of([row])[0], "folder"):
        return 1
    for k, level in enumerate(levels(lines, [row])):
        if any(straying.strays(stand, form) for (stand,) in level for form in ("file", "folder")):
            return k + 2
    return None


def least_left_out(lines, command, whole):
    """The number of entries of a shortest chain to whose last one the command comes alone, and not at a row's end."""
    for k, level in enumerate(levels(lines, [[command], whole])):
        if any(one[0] != -1 and other[-1] == -1 for one, other in level):
            return k + 2
    return None


def random_line(chance, form=None):
    form = form or chance.choice(["file", "folder"])
    owners = chance.choice([None, None, ["ann"], ["bob"], ["ann", "bob"], ["zz"]])
    groups = chance.choice([None, None, ["staff"], ["ops", "staff"], ["none"]])
    must = chance.choice([0, 0, 0o500, 0o100, 0o200, 0o555, 0o044])
    never = chance.choice([0, 0, 0o002, 0o077, 0o222, 0o020]) & ~must
    return (form, owners, groups, must, never)


def random_kind(chance, most=4):
    """One to four lines, mostly with one for folders."""
    if chance.random() < 0.3:
        return EVERY
    lines = [random_line(chance, "folder" if chance.random() < 0.95 else None)]
    while len(lines) < chance.randint(1, most):
        lines.append(random_line(chance))
    return lines


def random_tree(chance, lines, most=12):
    """A random tree of a kind, if one was found: its top, and entries that are let."""
    for _ in range(30):
        tree = walker.open_tree(chance, most)
        kept = {}
        for path in walker.in_order(tree):
            above = path.rpartition("/")[0]
            if is_let(lines, *tree[path]) and (path == "" or above in kept):
                kept[path] = tree[path]
        if "" in kept:
            return kept
    return None
