"""Points 2 and 14 and the heading modesdown/waves.py."""

import random
import time
import unittest

from modesdown.changes import Change
from modesdown.commands import Command, Row
from modesdown.errors import BadCommand, NoCommand
from modesdown.kinds import Kind, Line
from modesdown.lasting import settles
from modesdown.modes import Mode
from modesdown.trees import Tree
from modesdown.users import Chief, User
from modesdown.waves import fed, shows_wave, wave, wave_chain
from tests import builds, joints, oracle, walker
from tests.case import Case
from tests.samples import any_values, described
from tests.test_stands import NO_FOLDERS, USERS

ANN = User("ann")
CLOSED = ("folder", Mode(0), "ann", "q")
STEPS = Row(Command(ANN, Change.read("u+x")), Command(ANN, Change.read("u+r")))
LATE = Row(Command(ANN, Change.read("u+rx"), "last"))
FILE = ("file", Mode(0), "ann", "q")


def top_row(chance, users, most=3, texts=None):
    """A plain row whose starts are the top."""
    return [
        (chance.choice(users), chance.choice(texts) if texts else oracle.random_change(chance, 2),
         chance.choice(["first", "last"]), chance.choice(["all", "all", "folders", "files"]), "")
        for _ in range(chance.randint(1, most))
    ]


def delaying_row(chance):
    return [((False, "ann", ()), *one, "") for one in chance.choice(DELAYING)]


def played(row, folders, words):
    """The yields of plain folders: each word is done to a chain of these folders, whose last entry is a file."""
    tree, path = {}, ""
    for folder in folders:
        tree[path] = list(folder)
        path = path + "/q" if path else "q"
    tree[path] = ["file", 0, "none", "none"]
    yields = []
    for word in words:
        came = [at for at in word if path in walker.Walk(row[at], tree).came]
        yields.append(tuple(came))
    return yields


def delay_of(row, folders):
    """By how many of thirty rounds a block delays, or None."""
    whole = tuple(range(len(row)))
    yields = played(row, folders, [whole] * 4)
    if any(one not in ((), whole) for one in yields):
        return None
    yields = played(row, folders, [whole] * 30)
    k = yields.count(())
    return k if 0 < k < 30 and yields == [()] * k + [whole] * (30 - k) else None


def searched(lines, row, deep):
    """The wave of a plain row of one user, block by block and mode by mode."""
    types = joints.folders(lines, [row])
    blocks = [[one] for one in types] + ([[one, other] for one in types for other in types] if deep == 2 else [])
    for block in blocks:
        k = delay_of(row, block)
        if k is not None:
            for form in ("file", "folder"):
                for owner in joints.owners_of(lines, [row]):
                    for group in joints.groups_of(lines, [row]):
                        made = joints.left(row, (0,) * len(row), form, owner)
                        for mode in range(512):
                            if made[mode] != mode and joints.is_let(lines, form, mode, owner, group):
                                return (tuple(told(one) for one in block), k, told([form, mode, owner, group]))
            return None
    return None


def told(entry):
    """The name that stands for all others is another one in the package."""
    form, mode, owner, group = entry
    return (form, Mode(mode), "q" if owner == "other" else owner, "q" if group == "other" else group)


class Fed(Case):
    def test_against_rows_on_trees(self):
        chance = random.Random(91)
        seen = set()
        for _ in range(400):
            users = chance.choice(USERS + [walker.USERS[:3]])
            row = top_row(chance, users, 4)
            block = [
                ["folder", walker.random_mode(chance), chance.choice(walker.OWNERS), chance.choice(walker.GROUPS)]
                for _ in range(chance.randint(1, 2))
            ]
            if chance.random() < 0.5:
                for folder in block:
                    folder[2] = users[0][1]
            words = [tuple(at for at in range(len(row)) if chance.random() < 0.7) for _ in range(chance.randint(0, 5))]
            wanted = played(row, block, words)
            given = [("folder", Mode(mode), owner, group) for _, mode, owner, group in block]
            got = fed(builds.row_of(row), chance.choice([list, tuple])(given), *words)
            self.same(got, wanted)
            seen.update((len(block), len(word), len(one)) for word, one in zip(words, wanted))
        for deep in (1, 2):
            for pair in ((0, 0), (1, 0), (1, 1), (2, 1), (2, 2), (3, 0), (3, 3), (4, 2)):
                self.assertIn((deep, *pair), seen)

    def test_the_folders_keep_their_modes(self):
        self.same(fed(STEPS, [CLOSED], (0,), (0,), (1,), (0,)), [(), (), (1,), (0,)])
        self.same(fed(STEPS, (CLOSED,), (), (0, 1)), [(), (1,)])
        self.same(fed(STEPS, [CLOSED]), [])
        self.same(fed(STEPS, [CLOSED, CLOSED], (0, 1), (0, 1), (1,), ()), [(), (0, 1), (1,), ()])
        self.same(fed(LATE, [CLOSED, CLOSED], (0,), (0,), (0,)), [(), (), (0,)])

    def test_only_the_user_of_a_command_counts(self):
        both = Row(Command(ANN, Change.read("o+rx")), Command(User("bob"), Change.read("u+r")))
        self.same(fed(both, [CLOSED], (0, 1), (1,)), [[(1,), (1,)]][0])
        chief = Row(Command(Chief("cy"), Change.read("a="), "last"))
        self.same(fed(chief, [CLOSED, CLOSED], (0,), (), (0,)), [(0,), (), (0,)])

    def test_arguments_stay(self):
        block, word = [CLOSED, CLOSED], (0, 1)
        one = fed(STEPS, block, word, word)
        one.append(5)
        self.same([described(block), word], [described([CLOSED, CLOSED]), (0, 1)])
        self.same(fed(STEPS, block, word, word), [(), (0, 1)])

    def test_no_command_with_the_first_index(self):
        for words, index in (
            (((2,),), 2), (((0, 1, 7), (9,)), 7), (((0,), (), (0, 5, 6)), 5), (((0,), (1, 3), (2,)), 3), (((-1, 0),), -1),
        ):
            self.fails(NoCommand, (index,), fed, STEPS, [CLOSED], *words)
        self.fails(NoCommand, (0,), fed, Row(), [CLOSED], (), (0,))

    def test_another_start_first(self):
        for start in ("a", "a/b/c"):
            for row in (Row(Command(ANN, Change.read("u+r"), start=start)), STEPS + Command(ANN, Change.read("u+r"), start=start)):
                self.fails(BadCommand, ("start",), fed, row, [CLOSED], (17,))
                self.fails(BadCommand, ("start",), fed, row, [CLOSED])
                self.fails(BadCommand, ("start",), wave, row + Command(User("bob"), Change.read("u+r")), NO_FOLDERS)
                self.fails(BadCommand, ("start",), wave, row, Kind.every(), 1)
                self.fails(BadCommand, ("start",), shows_wave, row, Kind.every(), None)
                self.fails(BadCommand, ("start",), shows_wave, row, NO_FOLDERS, ((CLOSED,), 1, FILE))


NARROW = [
    [("folder", ["ann"], None, 0, 0o077), ("file", None, None, 0, 0)],
    [("folder", ["ann"], ["staff"], 0o200, 0o037), ("file", ["ann"], None, 0o100, 0)],
    [("folder", ["ann", "bob"], ["staff"], 0o010, 0o066), ("file", ["bob"], None, 0, 0)],
    [("folder", None, ["guests"], 0o003, 0o070), ("folder", ["ann"], ["staff"], 0o220, 0o057), ("file", ["ann"], ["zz"], 0, 0)],
    [("folder", ["ann"], ["q", "qa"], 0o007, 0o070), ("file", ["q"], None, 0, 0), ("folder", ["bob"], None, 0o777, 0)],
]
WIDER = [
    [("folder", ["ann"], ["staff"], 0, 0o007), ("file", None, None, 0, 0)],
    [("folder", ["ann"], ["staff"], 0o004, 0), ("file", ["ann"], None, 0, 0)],
]
# Rows that delay on the kind of all trees: changes, orders and kinds.
DELAYING = [
    [("u+rx", "last", "all")], [("u=g,g=o", "last", "all")], [("u=g,g=o,o=u", "last", "folders"), ("o+r", "first", "files")],
    [("u=rwx", "last", "all"), ("u=g", "last", "folders")], [("u+x", "first", "all"), ("u+r", "first", "all")],
    [("u=g,g=o", "first", "all"), ("u=g", "last", "folders"), ("o+r", "last", "folders")],
    [("a+X", "first", "folders"), ("u=g,g=o,o=u", "last", "all"), ("o+r", "last", "all")],
    [("u+rx", "last", "all"), ("u+r", "last", "all"), ("u=g", "last", "all")],
]
TEXTS = ["u+x", "u+r", "u+rx", "u=g", "g=o", "g=u", "u=g,g=o,o=u", "g=o,u=g", "a+X", "u-x", "o+r", "u+x,g+r", "u=g,g=o", "u=rwx"]


class Waves(Case):
    def check(self, lines, row, deep):
        got, wanted = wave(builds.row_of(row), builds.kind_of(lines), deep), searched(lines, row, deep)
        self.same(got, wanted)
        if got is not None:
            block, k, entry = got
            self.same([type(got), type(block), {type(one) for one in block}, type(entry)], [tuple, tuple, {tuple}, tuple])
        return got

    def test_against_a_search_one_folder_deep(self):
        chance = random.Random(92)
        told = set()
        for _ in range(70):
            users, lines = chance.choice(USERS[:1] + [[walker.USERS[0]], USERS[2]]), joints.random_kind(chance)
            got = self.check(lines, top_row(chance, users, 3, TEXTS), 1)
            told.add(got and got[1])
        self.assertLessEqual({None, 1}, told)

    def test_against_a_search_two_folders_deep(self):
        chance = random.Random(93)
        told = set()
        for k in range(80):
            lines, users = chance.choice(NARROW), [chance.choice([(False, "ann", ()), (False, "ann", ("staff",)), (True, "ann", ())])]
            row = top_row(chance, users, 3, TEXTS)
            if k % 8 == 0:
                lines, row = chance.choice(WIDER), delaying_row(chance)
            got = self.check(lines, row, 2)
            told.add(got and (len(got[0]), got[1]))
            self.same(wave(builds.row_of(row), builds.kind_of(lines)), got)
            if got is not None and len(got[0]) == 2:
                self.same(wave(builds.row_of(row), builds.kind_of(lines), deep=1), None)
        self.assertLessEqual({None, (1, 1), (1, 2), (2, 1), (2, 2)}, told)

    def test_what_delays_never_settles(self):
        chance = random.Random(94)
        many = 0
        for _ in range(60):
            lines, row = chance.choice(NARROW + WIDER), delaying_row(chance)
            kind, made = builds.kind_of(lines), builds.row_of(row)
            if wave(made, kind) is not None:
                self.same(settles(made, 10 // len(row) - 1, kind, 2000)[0], None)
                many += 1
        self.assertGreater(many, 10)

    def test_two_rounds_and_two_folders(self):
        shift = Row(Command(ANN, Change.read("u=g,g=o"), "last"))
        block, k, entry = wave(shift, Kind.every())
        # What the others have reaches the group in the first round and the owner in the second one.
        self.same([block, k, entry], [(("folder", Mode(0o5), "ann", "q"),), 2, ("file", Mode(0o1), "ann", "q")])
        # The row, fed to a closed folder, yields its second command at once; only two such folders hold back both.
        self.same([wave(STEPS, Kind.every(), 1), wave(STEPS, Kind.every(), 2)], [None, ((CLOSED, CLOSED), 1, FILE)])

    def test_no_entry_that_is_changed(self):
        # The only entries that the kind lets are left as they are.
        kind = Kind(Line("folder", ["ann"], must=0o500), Line("folder", ["ann"], never=0o500), Line("file", ["bob"]))
        self.same(wave(LATE, kind), ((CLOSED,), 1, ("folder", Mode(0), "ann", "q")))
        self.same(wave(LATE, Kind(Line("folder", ["bob"], must=0o700), Line("file", ["ann"]))), None)
        folders = Row(Command(ANN, Change.read("u+rx"), "last", "folders"))
        self.same(wave(folders, Kind.every()), ((CLOSED,), 1, ("folder", Mode(0), "ann", "q")))

    def test_files_ahead_of_folders_and_the_least_mode(self):
        late = Row(Command(ANN, Change.read("u+rx"), "last"))
        for line, entry in (
            (Line("file", ["ann"], must=0o400), ("file", Mode(0o400), "ann", "a")),
            (Line("file", ["ann"], ["a", "b"], must=0o020), ("file", Mode(0o020), "ann", "a")),
            (Line("file", ["bob"]), ("folder", Mode(0), "ann", "a")),
            (Line("file", ["ann"], ["b"], must=0o500), ("folder", Mode(0), "ann", "a")),
        ):
            kind = Kind(Line("folder", ["ann"], ["a"]), line)
            self.same(wave(late, kind), ((("folder", Mode(0), "ann", "a"),), 1, entry))

    def test_the_last_mode_of_all(self):
        row = Row(Command(ANN, Change.read("u+rx,o-w"), "last"))
        for must, never in ((0o777, 0), (0o776, 0o001)):
            kind = Kind(Line("folder", ["ann"], never=0o777), Line("file", ["ann"], must=must, never=never))
            self.same(wave(row, kind), ((CLOSED,), 1, ("file", Mode(must), "ann", "q")))

    def test_modes_have_w_only_where_it_must_stand(self):
        kind = Kind(Line("folder", ["ann"], must=0o222), Line("file"))
        self.same(wave(LATE, kind)[0], (("folder", Mode(0o222), "ann", "q"),))
        both = Kind(Line("folder", ["ann"], ["a"], must=0o020), Line("folder", ["ann"], ["a"]), Line("file"))
        self.same(wave(LATE, both)[0], (("folder", Mode(0), "ann", "a"),))

    def test_none(self):
        for row in (Row(Command(Chief("ann"), Change.read("u+rx"), "last")), Row(Command(ANN, Change.read("a-x"))), Row()):
            self.same([wave(row, Kind.every()), wave(row, Kind.every(), 1)], [None, None])
        self.same(wave(LATE, NO_FOLDERS), None)
        self.same(wave(Row(Command(ANN, Change.read("u+rx"), "last", "files")), Kind.every()), None)

    def test_more_than_one_user(self):
        for other in (User("bob"), Chief("bob", "ann")):
            row = LATE + Command(other, Change.read("u+r"))
            for kind in (Kind.every(), NO_FOLDERS):
                self.fails(BadCommand, ("user",), wave, row, kind)
                self.fails(BadCommand, ("user",), wave, kind=kind, deep=1, row=row)
        twice = Row(Command(User("ann", "a", "b"), Change.read("u+")), Command(User("ann", "b", "a"), Change.read("u+rx"), "last"))
        self.assertIsNot(wave(twice, Kind.every()), None)

    def test_a_kind_with_very_many_folder_types(self):
        kind = Kind(
            Line("folder", ["c", "d"], ["e", "f"]), Line("folder", ["g", "h"], ["i", "j"]),
            Line("folder", None, ["k", "l"]), Line("folder", ["k", "l"], ["x", "z"]),
        )
        user = User("ann", "a", "b")
        began = time.monotonic()
        for texts in (TEXTS[:10], TEXTS[4:], ["u=g,g=o,o=u", "u=o"] * 5, ["u+r"] * 10, ["u-r", "g=u"]):
            row = Row(*[Command(user, Change.read(text), ("first", "last")[k % 2]) for k, text in enumerate(texts[:10])])
            for asked in (kind, Kind.every()):
                got = wave(row, asked)
                if got is not None:
                    self.same(shows_wave(row, asked, got), True)
        self.assertLess(time.monotonic() - began, 30)


class Shown(Case):
    def test_what_wave_tells(self):
        chance = random.Random(95)
        many = 0
        for _ in range(40):
            lines, row = chance.choice(NARROW + WIDER + [joints.EVERY] * 9), delaying_row(chance)
            kind, made = builds.kind_of(lines), builds.row_of(row)
            got = wave(made, kind)
            if got is not None:
                many += 1
                block, k, entry = got
                self.same([shows_wave(made, kind, got), shows_wave(made, kind, (block, k + 1, entry))], [True, False])
                self.same(shows_wave(made, kind, (block, k - 1, entry)), False)
        self.assertGreater(many, 8)

    def test_blocks_one_by_one(self):
        chance = random.Random(96)
        seen = set()
        for _ in range(300):
            users = chance.choice(USERS + [[(False, "ann", ())]])
            row = top_row(chance, users, 3, TEXTS) if chance.random() < 0.4 else delaying_row(chance)
            lines = chance.choice(NARROW + [joints.EVERY] * 9)
            block = [
                ["folder", chance.choice([0, 0o7, 0o70, 0o20, 0o757, 0o700, chance.randrange(512)]), chance.choice(["ann"] * 5 + ["bob"]),
                 chance.choice(["staff", "none"])] for _ in range(chance.randint(1, 2))
            ]
            entry = [chance.choice(["file", "folder"]), chance.randrange(512), chance.choice(["ann", "ann", "bob"]), "staff"]
            made = joints.left(row, (0,) * len(row), entry[0], entry[2])
            fits = all(joints.is_let(lines, *one) for one in block + [entry]) and made[entry[1]] != entry[1]
            delay = delay_of(row, block)
            thing = (tuple(told(one) for one in block), None, told(entry))
            for k in (1, 2, 3):
                wanted = fits and delay == k
                self.same(shows_wave(builds.row_of(row), builds.kind_of(lines), (thing[0], k, thing[2])), wanted)
                seen.add((wanted, k if wanted else 0, len(block)))
        self.assertLessEqual({(True, 1, 1), (True, 1, 2), (False, 0, 1), (False, 0, 2)}, seen)
        self.assertTrue({(True, 2, 1), (True, 2, 2)} & seen)

    def test_several_users(self):
        both = Row(Command(ANN, Change.read("a+rx"), "last"), Command(User("bob"), Change.read("u+r"), "first", "files"))
        kind = Kind.every()
        self.same(fed(both, [CLOSED], (0, 1), (0, 1)), [(1,), (0, 1)])
        later = Row(Command(User("bob"), Change.read("u+r"), "first", "files"), Command(ANN, Change.read("a+rx"), "last"))
        self.same(fed(later, [CLOSED], (0, 1), (0, 1)), [(), (0, 1)])
        self.same(shows_wave(later, kind, ((CLOSED,), 1, FILE)), True)
        self.same(shows_wave(later, kind, ((CLOSED,), 1, ("file", Mode(0), "bob", "q"))), True)
        self.same(shows_wave(later, kind, ((CLOSED,), 1, ("folder", Mode(0), "bob", "q"))), False)

    def test_modes_with_any_w_and_any_names(self):
        kind = Kind(Line("folder"), Line("file", never=0o002))
        block = (("folder", Mode(0o232), "ann", "guests"),)
        self.same(shows_wave(LATE, kind, (block, 1, ("file", Mode(0o020), "ann", "zz"))), True)
        self.same(shows_wave(LATE, kind, (block, 1, ("file", Mode(0o022), "ann", "zz"))), False)
        self.same(shows_wave(LATE, kind, (block, 1, ("file", Mode(0o500), "ann", "zz"))), False)
        self.same(shows_wave(LATE, kind, (block, 1, ("file", Mode(0), "bob", "zz"))), False)

    def test_folders_and_entries_beside_the_kind(self):
        kind = Kind(Line("folder", ["ann"], ["q"]), Line("folder", ["ann"], must=0o004), Line("file", ["ann"]))
        self.same(shows_wave(LATE, kind, ((CLOSED,), 1, FILE)), True)
        self.same(shows_wave(LATE, kind, ((("folder", Mode(0), "ann", "r"),), 1, FILE)), False)
        self.same(shows_wave(LATE, kind, ((("folder", Mode(4), "ann", "r"),), 1, FILE)), True)
        self.same(shows_wave(LATE, kind, ((CLOSED, ("folder", Mode(0), "ann", "r")), 2, FILE)), False)
        self.same(shows_wave(LATE, kind, ((CLOSED, CLOSED), 2, FILE)), True)
        self.same(shows_wave(LATE, kind, ((CLOSED,), 1, ("folder", Mode(0), "ann", "r"))), False)
        self.same(shows_wave(LATE, kind, ((CLOSED,), 1, ("folder", Mode(0), "ann", "q"))), True)

    def test_one_part_otherwise(self):
        kind, right = Kind.every(), ((CLOSED,), 1, FILE)
        self.same(shows_wave(LATE, kind, right), True)
        for wrong in (
            ((CLOSED,), 1), ((CLOSED,), 1, FILE, FILE), [(CLOSED,), 1, FILE], ([CLOSED], 1, FILE), ((list(CLOSED),), 1, FILE),
            ((CLOSED,), 1, list(FILE)), ((), 1, FILE), ((CLOSED,) * 3, 3, FILE), (CLOSED, 1, FILE), ((CLOSED,), 0, FILE),
            ((CLOSED,), True, FILE), ((CLOSED,), 2, FILE), ((CLOSED,), -1, FILE), ((CLOSED,), 10 ** 60 - 1, FILE),
            ((("file", Mode(0), "ann", "q"),), 1, FILE), ((("Folder", Mode(0), "ann", "q"),), 1, FILE),
            ((("folder", 0, "ann", "q"),), 1, FILE), ((("folder", Mode(0), "Ann", "q"),), 1, FILE),
            ((("folder", Mode(0), "ann", ""),), 1, FILE), ((("folder", Mode(0), "ann"),), 1, FILE),
            ((("folder", Mode(0), "ann", "q", "q"),), 1, FILE), (((Mode(0), "ann", "q"),), 1, FILE),
            ((("", "folder", Mode(0), "ann", "q"),), 1, FILE),
            ((CLOSED,), 1, ("file", 0, "ann", "q")), ((CLOSED,), 1, ("file", Mode(0), "ann")), ((CLOSED,), 1, ("", Mode(0), "ann", "q")),
            ((CLOSED,), 1, ("file", Mode(0), "ann", "q/q")), ((CLOSED,), 1, ("file", Mode(0), 5, "q")), ((CLOSED,), 1, None),
            ((("folder", Mode(0o500), "ann", "q"),), 1, FILE), ((("folder", Mode(0), "bob", "q"),), 1, FILE),
        ):
            self.same(shows_wave(LATE, kind, wrong), False)

    def test_any_values(self):
        values = any_values()
        for value in values:
            self.same(shows_wave(LATE, Kind.every(), value), False)
            for place in range(3):
                thing = [(CLOSED,), 1, FILE]
                thing[place] = value
                wanted = place == 1 and type(value) is int and value == 1
                self.same(shows_wave(LATE, Kind.every(), tuple(thing)), wanted)
            for place in range(4):
                for at, right in enumerate((CLOSED, FILE)):
                    told = list(right)
                    told[place] = value
                    thing = ((tuple(told),), 1, FILE) if at == 0 else ((CLOSED,), 1, tuple(told))
                    name = type(value) is str and value.isascii() and value.isalpha() and value.islower() and len(value) <= 8
                    wanted = (
                        (place == 0 and type(value) is str and value in (("folder",), ("file", "folder"))[at])
                        or (place == 1 and isinstance(value, Mode)) or (place == 2 and value == "ann" and name) or (place == 3 and name)
                    )
                    self.same(shows_wave(LATE, Kind.every(), thing), wanted)

    def test_without_folders_or_commands(self):
        self.same(shows_wave(LATE, NO_FOLDERS, ((CLOSED,), 1, FILE)), False)
        self.same(shows_wave(Row(), Kind.every(), ((CLOSED,), 1, FILE)), False)


class Chains(Case):
    def test_the_folders_and_the_entry(self):
        one, other = ("folder", Mode(0o12), "ann", "a"), ("folder", Mode(0o700), "bob", "b")
        tree = wave_chain((one, other), ("file", Mode(7), "cy", "c"), 2)
        self.assertIs(type(tree), Tree)
        self.same(tree.rows(), [
            ("", "folder", 0o12, "ann", "a"), ("q", "folder", 0o700, "bob", "b"), ("q/q", "folder", 0o12, "ann", "a"),
            ("q/q/q", "folder", 0o700, "bob", "b"), ("q/q/q/q", "file", 7, "cy", "c"),
        ])
        self.same(wave_chain([one], ("folder", Mode(7), "cy", "c"), 1).rows(), [
            ("", "folder", 0o12, "ann", "a"), ("q", "folder", 7, "cy", "c"),
        ])
        self.same([wave_chain((one,), FILE, 59).size(), wave_chain((one, other), FILE, 29).size()], [60, 59])
        self.assertIsNot(wave_chain((one,), FILE, 1), wave_chain((one,), FILE, 1))

    def test_round_by_round(self):
        chance = random.Random(97)
        seen = set()
        for _ in range(60):
            lines, row = chance.choice(NARROW + WIDER + [joints.EVERY] * 9), delaying_row(chance)
            kind, made = builds.kind_of(lines), builds.row_of(row)
            found = wave(made, kind)
            if found is None:
                continue
            block, k, entry = found
            times = chance.randint(1, 5)
            tree = wave_chain(block, entry, times)
            self.same(kind.holds(tree), True)
            last = tree.rows()[-1][0]
            plain = builds.plain(tree)
            for done in range(k * times):
                stands = walker.played(row, plain)[1]
                self.same(stands[last], (-1,) * len(row))
                self.same(plain[last][1], entry[1].number)
            self.same(walker.played(row, plain)[1][last], (0,) * len(row))
            self.assertNotEqual(plain[last][1], entry[1].number)
            seen.add((len(block), k))
        self.assertLessEqual({(1, 1), (1, 2), (2, 1), (2, 2)}, seen)


if __name__ == "__main__":
    unittest.main()
