"""Points 2 and 12 and what modesdown/stands.py tells of agree and is_below."""

import random
import unittest

from modesdown.changes import Change
from modesdown.commands import Command, Row
from modesdown.errors import BadMode, BadStand
from modesdown.kinds import Kind, Line
from modesdown.modes import Mode
from modesdown.stands import agree, is_below
from modesdown.trees import File, Folder
from modesdown.users import Chief, User
from modesdown.words import behind
from tests import builds, joints, walker
from tests.case import Case
from tests.samples import any_values, is_integer, same
from tests.test_stands import MEND, USERS

ANN = User("ann", "staff")
BOTH = (agree, is_below)
MASKS = [0o777, 0o777, 0o700, 0o070, 0o444, 0o111, 0o222, 0, 1, 0o653]


def any_stand(chance, row):
    """A stand that need not come about."""
    return tuple(chance.randint(-1, len(joints.names_of(command))) for command in row)


class Agreeing(Case):
    def test_against_all_owners_groups_and_modes(self):
        chance = random.Random(61)
        told = {(call, wanted): 0 for call in BOTH for wanted in (True, False)}
        for _ in range(500):
            users, lines = chance.choice(USERS), joints.random_kind(chance)
            one = [walker.random_command(chance, users) for _ in range(chance.randrange(4))]
            other = [chance.choice(one) if one and chance.random() < 0.7 else walker.random_command(chance, users)
                     for _ in range(chance.randrange(4))]
            joint, mask = (any_stand(chance, one), any_stand(chance, other)), chance.choice(MASKS)
            kind, rows = builds.kind_of(lines), (builds.row_of(one), builds.row_of(other))
            for form in ("file", "folder"):
                for call in BOTH:
                    wanted = not joints.parts(lines, one, other, joint, form, mask, call is is_below)
                    told[call, wanted] += 1
                    self.same(call(kind, *rows, joint, form, mask), wanted)
                    self.same(call(kind, *rows, joint, form, mask=Mode(mask)), wanted)
                    if mask == 0o777:
                        self.same(call(kind, *rows, joint, form), wanted)
        self.assertGreater(min(told.values()), 100)

    def test_by_name(self):
        for call in BOTH:
            self.same(call(form="file", joint=((0,), (0, 0)), other=MEND * 2, one=MEND, kind=Kind.every(), mask=0o777), True)
            self.same(call(form="folder", joint=((0,), (-1, -1)), other=MEND * 2, one=MEND, kind=Kind.every()), False)

    def test_both_forms(self):
        def row(kinds):
            return Row(Command(ANN, Change.read("a-r"), kinds=kinds))
        joint = ((0,), (0,))
        for one, other, file, folder in (
            ("all", "all", True, True), ("all", "files", True, False), ("all", "folders", False, True), ("files", "folders", False, False),
        ):
            for first, second in ((one, other), (other, one)):
                self.same(agree(Kind.every(), row(first), row(second), joint, "file"), file)
                self.same(agree(Kind.every(), row(first), row(second), joint, "folder"), folder)
        self.same(is_below(Kind.every(), row("all"), row("files"), joint, "folder"), True)
        self.same(is_below(Kind.every(), row("files"), row("all"), joint, "folder"), False)

    def test_x_of_files(self):
        one, other = Row(Command(ANN, Change.read("a+X"))), Row(Command(ANN, Change.read("a+x")))
        joint = ((0,), (0,))
        self.same([agree(Kind.every(), one, other, joint, form) for form in ("file", "folder")], [False, True])
        self.same([is_below(Kind.every(), one, other, joint, "file"), is_below(Kind.every(), other, one, joint, "file")], [True, False])
        self.same(agree(Kind(Line("file", must=0o010), Line("folder")), one, other, joint, "file"), True)

    def test_kinds_without_a_line_of_the_form(self):
        one, other = Row(), Row(Command(Chief("cy"), Change.read("a=")))
        for call in BOTH:
            self.same(call(Kind(Line("folder")), one, other, ((), (0,)), "file"), True)
            self.same(call(Kind(Line("file")), other, one, ((0,), ()), "folder"), True)
        self.same(agree(Kind(Line("folder")), one, other, ((), (0,)), "folder"), False)
        self.same(agree(Kind(Line("file")), one, other, ((), (0,)), "file"), False)

    def test_only_owners_that_a_line_lets(self):
        one, other = Row(), Row(Command(ANN, Change.read("o+w")))
        joint = ((), (0,))
        for line, wanted in (
            (Line("file", ["bob"]), True), (Line("file", ["ann"]), False), (Line("file", ["bob", "ann"]), False), (Line("file"), False),
            (Line("file", ["ann"], must=2), True), (Line("file", ["ann"], ["none"], never=2), False), (Line("file", must=0o002), True),
        ):
            self.same(agree(Kind(line), one, other, joint, "file"), wanted)
            self.same(agree(Kind(Line("folder"), Line("file", ["q"]), line), one, other, joint, "file"), wanted)
            self.same(is_below(Kind(line), one, other, joint, "file"), True)
            self.same(is_below(Kind(line), other, one, joint[::-1], "file"), wanted)

    def test_an_owner_who_is_none_of_the_users(self):
        one, other = Row(Command(ANN, Change.read("a-r"))), Row(Command(Chief("cy"), Change.read("a-r")))
        joint = ((0,), (0,))
        self.same(agree(Kind(Line("file", ["ann"])), one, other, joint, "file"), True)
        self.same(agree(Kind.every(), one, other, joint, "file"), False)

    def test_masks(self):
        one, other = Row(Command(ANN, Change.read("o+w"))), Row(Command(ANN, Change.read("g+x")))
        joint = ((0,), (0,))
        for mask in list(range(512)):
            self.same(agree(Kind.every(), one, other, joint, "file", mask), mask & 0o012 == 0)
            self.same(is_below(Kind.every(), one, other, joint, "file", Mode(mask)), mask & 0o002 == 0)
            self.same(is_below(Kind.every(), other, one, joint[::-1], "file", mask), mask & 0o010 == 0)

    def test_joint_stands_that_do_not_come_about(self):
        one = Row(Command(ANN, Change.read("u+x"), start="a/b"), Command(ANN, Change.read("u-x")))
        for stand, file in (((2, -1), 0o100), ((2, 0), 0), ((1, 0), 0), ((0, -1), 0), ((-1, -1), 0)):
            self.same(behind(one, stand, File(0, "ann", "a")), file)
            self.same(agree(Kind(Line("file", ["ann"], never=0o777)), one, Row(), (stand, ()), "file"), file == 0)


class Refused(Case):
    def setUp(self):
        self.one = Row(Command(ANN, Change.read("u+x"), start="a/b"), Command(ANN, Change.read("u-x")))
        self.other = Row(Command(ANN, Change.read("u+x"), start="a"))

    def refused(self, at, joint, *mask):
        for call in BOTH:
            for kind in (Kind.every(), Kind(Line("file"))):
                for form in ("file", "folder"):
                    self.fails(BadStand, (at,), call, kind, self.one, self.other, joint, form, *mask)

    def test_what_is_no_tuple_of_two(self):
        for value in any_values() + [[(0, 0), (0,)], ((0, 0),), ((0, 0), (0,), ()), ((0, 0), (0,), (0,)), ()]:
            if not (type(value) is tuple and len(value) == 2):
                self.refused(0, value)
                self.refused(0, value, 512)

    def test_the_first_wrong_stand(self):
        for value in any_values() + [(0,), (0, 0, 0), (3, 0), (0, 1), (-2, 0), (True, 0), (0, False), [0, 0], ()]:
            if not (type(value) is tuple and len(value) == 2 and all(is_integer(part) for part in value)):
                self.refused(0, (value, (0,)))
                self.refused(0, (value, value), "no")
        self.refused(0, ((3, 0), (2,)))
        for value in any_values() + [(2,), (-2,), (False,), (0, 0), (), [0]]:
            if not any(same(value, stand) for stand in ((-1,), (0,), (1,))):
                self.refused(1, ((2, 0), value))
                self.refused(1, ((-1, -1), value), 512)

    def test_then_the_mask(self):
        for call in BOTH:
            for value in any_values() + [512, -1, True]:
                if not (isinstance(value, Mode) or is_integer(value) and 0 <= value <= 511):
                    for kind in (Kind.every(), Kind(Line("file"))):
                        self.fails(BadMode, ("number",), call, kind, self.one, self.other, ((0, 0), (0,)), "folder", value)
                        self.fails(BadMode, ("number",), call, kind, self.one, self.other, ((0, 0), (0,)), "file", mask=value)
                else:
                    call(Kind.every(), self.one, self.other, ((0, 0), (0,)), "folder", value)

    def test_all_right_stands(self):
        for a in (-1, 0, 1, 2):
            for b in (-1, 0):
                for c in (-1, 0, 1):
                    done = [behind(row, stand, Folder(0o100, "ann", "a")) for row, stand in ((self.one, (a, b)), (self.other, (c,)))]
                    got = agree(Kind(Line("folder", ["ann"], None, 0o100)), self.one, self.other, ((a, b), (c,)), "folder")
                    self.same(got, done[0] == done[1])


if __name__ == "__main__":
    unittest.main()
