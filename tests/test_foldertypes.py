"""Points 2 and 11, folder types, and the heading modesdown/foldertypes.py."""

import random
import unittest

from modesdown.changes import Change
from modesdown.commands import Row
from modesdown.foldertypes import FolderType, folder_types, spare
from modesdown.kinds import Kind, Line
from modesdown.modes import Mode
from tests import builds, joints, oracle, walker
from tests.case import Case
from tests.samples import any_values

LETTERS = "abcdefghijklmnopqrstuvwxyz"


class Types(Case):
    def test_parts(self):
        for number in (0, 0o54, 0o750, 511):
            for mode in (number, Mode(number)):
                one = FolderType("ann", "staff", mode)
                self.same([one.owner, one.group, one.mode.number], ["ann", "staff", number])
                self.assertIs(type(one.mode), Mode)
                self.assertEqual(FolderType(mode=mode, group="staff", owner="ann"), one)
                self.same(str(one), f"ann staff {Mode(number)}")
        self.same(str(FolderType("b", "c", Mode(0o641))), "b c rw-r----x")

    def test_properties_are_only_read(self):
        for name in ("owner", "group", "mode"):
            with self.assertRaises(AttributeError):
                setattr(FolderType("a", "b", Mode(0)), name, 0)

    def test_passes_and_lists(self):
        chance = random.Random(41)
        for told in walker.USERS:
            for number in range(512):
                folder = ["folder", number, chance.choice(walker.OWNERS), chance.choice(walker.GROUPS)]
                one = FolderType(folder[2], folder[3], Mode(number))
                self.same(one.passes(builds.user_of(told)), walker.passes(told, folder))
                self.same(one.lists(user=builds.user_of(told)), walker.lists(told, folder))

    def test_changed(self):
        chance = random.Random(42)
        for _ in range(100):
            text = oracle.random_change(chance)
            number = chance.randrange(512)
            one = FolderType("ann", "staff", Mode(number))
            other = one.changed(Change.read(text))
            self.assertIs(type(other), FolderType)
            self.same([other.owner, other.group, other.mode.number], ["ann", "staff", oracle.image(text, "folder")[number]])
            self.same(one.mode.number, number)
        # X means x for a folder without any x.
        self.same(FolderType("a", "b", Mode(0)).changed(change=Change.read("a+X")).mode.number, 0o111)

    def test_equal(self):
        one = FolderType("ann", "staff", Mode(5))
        self.same([one == FolderType("ann", "staff", Mode(5)), one != FolderType("ann", "staff", Mode(5))], [True, False])
        for other in (FolderType("bob", "staff", Mode(5)), FolderType("ann", "ops", Mode(5)), FolderType("ann", "staff", Mode(4))):
            self.same([one == other, one != other], [False, True])
        for value in any_values() + ["ann staff ------r-x"]:
            self.same([one == value, value == one], [False, False])


class Spares(Case):
    def test_the_first_that_is_not_there(self):
        for names, wanted in (
            ([], "q"), ((), "q"), (["ann"], "q"), (["q"], "qa"), (("q", "qb"), "qa"), (["qa"], "q"), (["qa", "q"], "qb"),
            (["q"] + ["q" + letter for letter in LETTERS[:25]], "qz"), (["q" + letter for letter in LETTERS], "q"),
            (["q", "qa", "qc"] + ["x" + letter for letter in LETTERS[:20]], "qb"),
        ):
            self.same(spare(names), wanted)
            self.same(spare(names=tuple(names)), wanted)

    def test_arguments_stay(self):
        names = ["q", "b", "a"]
        spare(names)
        self.same(names, ["q", "b", "a"])


class AllTypes(Case):
    def check(self, lines, rows):
        users = {(command[0][1], command[0][2]) for row in rows for command in row}
        owners = {name for name, groups in users} | {name for line in lines for name in line[1] or ()}
        groups = {name for one, told in users for name in told} | {name for line in lines for name in line[2] or ()}
        wanted = []
        for owner in sorted(owners) + [self.free(owners)]:
            for group in sorted(groups) + [self.free(groups)]:
                for mode in range(512):
                    if any(
                        joints.lets(line, "folder", mode, owner, group) and mode & 0o222 == line[3] & 0o222 for line in lines
                    ):
                        wanted.append((owner, group, mode))
        got = list(folder_types(builds.kind_of(lines), *[builds.row_of(row) for row in rows]))
        for one in got:
            self.assertIs(type(one), FolderType)
            self.assertIs(type(one.mode), Mode)
        self.same([(one.owner, one.group, one.mode.number) for one in got], wanted)
        return wanted

    def free(self, names):
        return next(name for name in ["q"] + ["q" + letter for letter in LETTERS] if name not in names)

    def test_against_the_oracle(self):
        chance = random.Random(43)
        users = [
            (False, "ann", ()), (False, "bob", ("staff", "ops")), (True, "cy", ("q",)), (False, "q", ("zz",)), (True, "root", ()),
        ]
        for _ in range(60):
            lines = joints.random_kind(chance)
            few = chance.sample(users, chance.randint(1, 3))
            rows = [
                [walker.random_command(chance, few) for _ in range(chance.randrange(3))] for _ in range(chance.randint(1, 3))
            ]
            self.check(lines, rows)

    def test_owners_and_groups_in_order(self):
        users = [(False, "bob", ("z", "a")), (True, "ann", ()), (False, "q", ("m",))]
        rows = [[(user, "u+r", "first", "all", "")] for user in users]
        lines = [("folder", None, None, 0, 0o777), ("file", ["x", "c"], ["qa", "q"], 0, 0)]
        told = self.check(lines, rows)
        self.same([one[0] for one in told[::6]], ["ann", "bob", "c", "q", "x", "qa"])
        self.same([one[1] for one in told[:6]], ["a", "m", "q", "qa", "z", "qb"])
        self.check(lines, rows[:1])
        self.check(lines, rows[:2])

    def test_without_commands_and_without_a_line_for_folders(self):
        self.same([str(one) for one in folder_types(Kind(Line("folder", never=0o777)), Row())], ["q q ---------"])
        self.same(list(folder_types(Kind(Line("file")), Row(), Row())), [])
        self.same([str(one) for one in folder_types(Kind(Line("folder", ["b"], ["c"], 0o777)), Row())], ["b c rwxrwxrwx"])

    def test_w_stands_only_where_it_must(self):
        for one in folder_types(Kind(Line("folder", must=0o200), Line("file", must=0o022)), Row()):
            self.same(one.mode.number & 0o222, 0o200)


if __name__ == "__main__":
    unittest.main()
