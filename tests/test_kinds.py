"""Points 2 and 10 and the heading modesdown/kinds.py."""

import random
import unittest

from modesdown.errors import BadKind, NoKind, TooMany
from modesdown.kinds import Kind, Line
from modesdown.modes import Mode
from modesdown.trees import Entry, File, Folder, Tree
from tests import builds, joints, walker
from tests.case import Case, is_name
from tests.samples import any_values, is_integer, same

FORMS = ("file", "folder")
LINES = [Line("folder", ["ann"]), Line("folder", ["bob"]), Line("file", ["ann"]), Line("file", ["bob"]), Line("file", ["cy"])]


def is_mode(value):
    return isinstance(value, Mode) or is_integer(value) and 0 <= value <= 511


def are_names(value):
    if value is None:
        return True
    if type(value) not in (list, tuple) or not 1 <= len(value) <= 2:
        return False
    return all(is_name(one) for one in value) and (len(value) == 1 or value[0] != value[1])


class Lines(Case):
    def line(self, got, form, owners, groups, must, never):
        self.assertIs(type(got), Line)
        self.same([got.form, got.owners, got.groups], [form, owners, groups])
        self.assertIs(type(got.must), Mode)
        self.assertIs(type(got.never), Mode)
        self.same([got.must.number, got.never.number], [must, never])

    def test_defaults(self):
        for form in FORMS:
            self.line(Line(form), form, None, None, 0, 0)
            self.line(Line(form=form, never=7, must=Mode(0o700), groups=("b", "a"), owners=["x"]), form, ("x",), ("a", "b"), 448, 7)

    def test_owners_and_groups(self):
        for names in (["a"], ("a",), ["abcdefgh"], ["a", "b"], ("a", "b"), ["b", "a"], ("b", "a"), ["b", "ab"]):
            told = tuple(sorted(names))
            self.line(Line("file", names, names), "file", told, told, 0, 0)
            self.line(Line("file", None, names), "file", None, told, 0, 0)
            self.line(Line("file", names), "file", told, None, 0, 0)
        for names in ([], (), ["a", "a"], ("a", "a"), ["a", "b", "c"], "a", "ab", {"a": 1}, ["A"], [None], [["a"]], ["a", ""], 5):
            self.fails(BadKind, (1,), Line, "file", names)
            self.fails(BadKind, (2,), Line, "file", None, names)

    def test_any_value_in_each_place(self):
        for value in any_values():
            if value not in FORMS:
                self.fails(BadKind, (0,), Line, value)
                self.fails(BadKind, (0,), Line, value, value, value, value, value)
            for at, call in (
                (1, lambda: Line("file", value)), (1, lambda: Line("file", value, "no", "no", "no")),
                (2, lambda: Line("file", None, value)), (2, lambda: Line("file", ["a"], value, "no", "no")),
            ):
                if not are_names(value):
                    self.fails(BadKind, (at,), call)
            for at, call in (
                (3, lambda: Line("file", None, None, value)), (3, lambda: Line("file", None, None, value, "no")),
                (4, lambda: Line("file", None, None, 0, value)), (4, lambda: Line("file", never=value)),
            ):
                if not is_mode(value):
                    self.fails(BadKind, (at,), call)
            if are_names(value):
                told = None if value is None else tuple(sorted(value))
                self.same([Line("file", value).owners, Line("file", None, value).groups], [told, told])
            if is_mode(value):
                mode = value if isinstance(value, Mode) else Mode(value)
                self.assertEqual([Line("file", must=value).must, Line("file", never=value).never], [mode, mode])

    def test_a_common_bit(self):
        for must in (1, 0o400, 0o777, Mode(0o070)):
            for never in (0o777, Mode(0o777), must):
                self.fails(BadKind, (4,), Line, "folder", None, None, must, never)
        self.fails(BadKind, (4,), Line, "folder", ["a"], ["b"], 0o750, 0o020 | 0o010)
        self.fails(BadKind, (3,), Line, "folder", None, None, 512, 512)
        self.line(Line("folder", None, None, 0o750, 0o027), "folder", None, None, 0o750, 0o027)
        self.line(Line("folder", None, None, 0o777, 0), "folder", None, None, 0o777, 0)
        self.line(Line("folder", None, None, 0, 0o777), "folder", None, None, 0, 0o777)

    def test_arguments_are_kept_as_they_were(self):
        owners, groups = ["b", "a"], ["d", "c"]
        line = Line("file", owners, groups)
        self.same([owners, groups], [["b", "a"], ["d", "c"]])
        owners.append("x")
        groups.clear()
        self.line(line, "file", ("a", "b"), ("c", "d"), 0, 0)

    def test_properties_are_only_read(self):
        for name in ("form", "owners", "groups", "must", "never"):
            with self.assertRaises(AttributeError):
                setattr(Line("file"), name, None)

    def test_lets_each_part(self):
        line = Line("folder", ["ann", "bob"], ["staff"], 0o500, 0o022)
        for form, mode, owner, group, wanted in (
            ("folder", 0o500, "ann", "staff", True), ("folder", 0o755, "bob", "staff", True), ("file", 0o500, "ann", "staff", False),
            ("folder", 0o500, "cy", "staff", False), ("folder", 0o500, "ann", "ann", False), ("folder", 0o400, "ann", "staff", False),
            ("folder", 0o100, "ann", "staff", False), ("folder", 0o520, "ann", "staff", False), ("folder", 0o502, "ann", "staff", False),
            ("folder", 0o777, "ann", "staff", False), ("folder", 0, "ann", "staff", False), ("folder", 0o500, "staff", "ann", False),
        ):
            self.same(line.lets(form, mode, owner, group), wanted)
            self.same(line.lets(group=group, owner=owner, mode=Mode(mode), form=form), wanted)

    def test_lets_against_the_oracle(self):
        chance = random.Random(31)
        for _ in range(60):
            told = joints.random_line(chance)
            line = Line(*told)
            for form in FORMS:
                for mode in range(512):
                    owner, group = chance.choice(["ann", "bob", "zz", "cy"]), chance.choice(["staff", "ops", "none", "x"])
                    self.same(line.lets(form, mode, owner, group), joints.lets(told, form, mode, owner, group))

    def test_patterns(self):
        chance = random.Random(32)
        for _ in range(200):
            must = chance.randrange(512) & chance.randrange(512)
            line = Line("file", None, None, must, chance.randrange(512) & ~must)
            for letter in "rwx":
                wanted = {Mode(mode).pattern(letter) for mode in range(512) if line.lets("file", mode, "a", "a")}
                self.same(line.patterns(letter), sorted(wanted))
                self.same(line.patterns(letter=letter), sorted(wanted))
        self.same(Line("file").patterns("w"), [0, 1, 2, 3, 4, 5, 6, 7])
        line = Line("file", None, None, 0o210, 0o402)
        self.same([line.patterns("r"), line.patterns("w"), line.patterns("x")], [[0, 1, 2, 3], [4, 6], [2, 3, 6, 7]])
        line.patterns("r").clear()
        self.same(line.patterns("r"), [0, 1, 2, 3])

    def test_equal(self):
        one = Line("file", ["a", "b"], ["c"], 1, 2)
        self.same([one == Line("file", ("b", "a"), ("c",), Mode(1), Mode(2)), one != Line("file", ["b", "a"], ["c"], 1, 2)], [True, False])
        for other in (
            Line("folder", ["a", "b"], ["c"], 1, 2), Line("file", ["a"], ["c"], 1, 2), Line("file", None, ["c"], 1, 2),
            Line("file", ["a", "b"], None, 1, 2), Line("file", ["a", "b"], ["d"], 1, 2), Line("file", ["a", "b"], ["c"], 5, 2),
            Line("file", ["a", "b"], ["c"], 1, 6), Line("file", ["c"], ["a", "b"], 1, 2),
        ):
            self.same([one == other, other == one, one != other], [False, False, True])
        for value in any_values() + [("file", ("a", "b"), ("c",), 1, 2)]:
            self.same([one == value, value == one], [False, False])


class Kinds(Case):
    def kind(self, got, *lines):
        self.assertIs(type(got), Kind)
        self.assertIs(type(got.lines), tuple)
        self.assertEqual(got.lines, lines)

    def test_one_to_four_lines(self):
        for many in range(1, 5):
            self.kind(Kind(*LINES[:many]), *LINES[:many])
        self.kind(Kind(LINES[0], LINES[0]), LINES[0], LINES[0])
        self.same([Kind.MOST, Kind(LINES[0]).MOST], [4, 4])

    def test_none_and_five(self):
        self.fails(BadKind, (0,), Kind)
        self.fails(TooMany, (4,), Kind, *LINES)
        self.fails(TooMany, (4,), Kind, *LINES, *LINES)

    def test_other_values_among_them(self):
        for value in any_values():
            for at in range(4):
                self.fails(BadKind, (at,), Kind, *LINES[:at], value)
                self.fails(BadKind, (at,), Kind, *LINES[:at], *[value] * (4 - at))
            self.fails(BadKind, (0,), Kind, value, *LINES[:3])
            self.fails(TooMany, (4,), Kind, *[value] * 5)
        self.fails(BadKind, (1,), Kind, LINES[0], Kind(LINES[0]))

    def test_every(self):
        self.kind(Kind.every(), Line("file"), Line("folder"))
        self.kind(Kind(LINES[0]).every(), Line("file"), Line("folder"))
        for form in FORMS:
            for mode in range(512):
                self.same(Kind.every().lets(form, mode, "a", "b"), True)

    def test_properties_are_only_read(self):
        with self.assertRaises(AttributeError):
            Kind(LINES[0]).lines = ()

    def test_equal(self):
        self.same([Kind(*LINES[:3]) == Kind(*LINES[:3]), Kind(*LINES[:3]) != Kind(*LINES[:3])], [True, False])
        for other in (Kind(*LINES[:2]), Kind(LINES[1], LINES[0], LINES[2]), Kind(*LINES[:2], LINES[3]), Kind(*LINES[:3], LINES[0])):
            self.same([Kind(*LINES[:3]) == other, other != Kind(*LINES[:3])], [False, True])
        for value in any_values() + [LINES[0], (LINES[0],)]:
            self.same([Kind(LINES[0]) == value, value == Kind(LINES[0])], [False, False])

    def test_lets_and_in_against_the_oracle(self):
        chance = random.Random(33)
        for _ in range(150):
            lines = joints.random_kind(chance)
            kind = builds.kind_of(lines)
            for _ in range(40):
                form, mode = chance.choice(FORMS), walker.random_mode(chance)
                owner, group = chance.choice(["ann", "bob", "zz", "cy"]), chance.choice(["staff", "ops", "none", "x"])
                wanted = joints.is_let(lines, form, mode, owner, group)
                self.same(kind.lets(form, mode, owner, group), wanted)
                self.same(kind.lets(form=form, mode=Mode(mode), owner=owner, group=group), wanted)
                entry = (File if form == "file" else Folder)(mode, owner, group)
                self.same(entry in kind, wanted)

    def test_in_with_any_value(self):
        for kind in (Kind.every(), Kind(*LINES[:2])):
            for value in any_values():
                self.same(value in kind, isinstance(value, Entry) and kind == Kind.every() or (
                    isinstance(value, Folder) and value.owner in ("ann", "bob")))

    def test_an_entry_by_itself(self):
        kind = Kind(Line("folder", ["ann"]))
        folder = Folder(0, "ann", "a", b=File(0, "bob", "a"))
        self.same([folder in kind, kind.holds(Tree(folder)), folder["b"] in kind], [True, False, False])

    def test_holds(self):
        chance = random.Random(34)
        held = 0
        for _ in range(300):
            lines = joints.random_kind(chance)
            tree = joints.random_tree(chance, lines, 8) if chance.random() < 0.6 else walker.random_tree(chance, 5)
            if tree is None:
                continue
            wanted = all(joints.is_let(lines, *entry) for entry in tree.values())
            self.same(builds.kind_of(lines).holds(tree=builds.tree_of(tree)), wanted)
            held += wanted
        self.assertGreater(held, 50)
        self.same(Kind(Line("file")).holds(Tree(Folder(0, "a", "a"))), False)

    def test_folder_modes_against_the_oracle(self):
        chance = random.Random(35)
        for _ in range(120):
            lines = joints.random_kind(chance)
            kind = builds.kind_of(lines)
            for owner in ("ann", "bob", "x"):
                for group in ("staff", "x"):
                    wanted = {
                        mode for line in lines for mode in range(512)
                        if joints.lets(line, "folder", mode, owner, group) and mode & 0o222 == line[3] & 0o222
                    }
                    got = kind.folder_modes(group=group, owner=owner)
                    self.assertIs(type(got), list)
                    for mode in got:
                        self.assertIs(type(mode), Mode)
                    self.same([mode.number for mode in got], sorted(wanted))

    def test_folder_modes_with_w_only_where_it_must_stand(self):
        kind = Kind(Line("folder", None, None, 0o720, 0o055), Line("folder", ["ann"], None, 0o500, 0o077), Line("file", None, None, 0o222))
        self.same([mode.number for mode in kind.folder_modes("bob", "a")], [0o720])
        self.same([mode.number for mode in kind.folder_modes("ann", "a")], [0o500, 0o720])
        self.same(len(Kind.every().folder_modes("a", "a")), 64)
        self.same(Kind(Line("file")).folder_modes("a", "a"), [])


class Joined(Case):
    kind = Kinds.kind

    def test_or(self):
        a, b, c, d, e = LINES
        self.kind(Kind(a) | Kind(b), a, b)
        self.kind(Kind(a, b) | Kind(c, d), a, b, c, d)
        self.kind(Kind(b, a) | Kind(a, c, b), b, a, c)
        self.kind(Kind(a, b, c, d) | Kind(d, c, b, a), a, b, c, d)
        self.kind(Kind(a) | Kind(a), a)
        self.kind(Kind(Line("file", ["x", "y"])) | Kind(Line("file", ("y", "x"), must=0)), Line("file", ["x", "y"]))
        for one, other in ((Kind(a, b, c, d), Kind(e)), (Kind(a, b, c), Kind(d, e)), (Kind(a), Kind(b, c, d, e))):
            self.fails(TooMany, (4,), lambda: one | other)

    def test_and_lets_what_both_let(self):
        chance = random.Random(36)
        many = 0
        for _ in range(400):
            told = [joints.random_kind(chance, 3), joints.random_kind(chance, 3)]
            one, other = [builds.kind_of(lines) for lines in told]
            wanted = []
            for first in one.lines:
                for second in other.lines:
                    line = self.both(first, second)
                    if line is not None and line not in wanted:
                        wanted.append(line)
            if not wanted:
                self.fails(NoKind, (), lambda: one & other)
            elif len(wanted) > 4:
                self.fails(TooMany, (4,), lambda: one & other)
            else:
                self.kind(one & other, *wanted)
                many += 1
                for _ in range(20):
                    entry = (chance.choice(FORMS), walker.random_mode(chance), chance.choice(["ann", "bob", "x"]), "staff")
                    self.same((one & other).lets(*entry), one.lets(*entry) and other.lets(*entry))
        self.assertGreater(many, 100)

    def both(self, one, other):
        """The line of two, put together without the package."""
        if one.form != other.form or (one.must.number | other.must.number) & (one.never.number | other.never.number):
            return None
        names = []
        for first, second in ((one.owners, other.owners), (one.groups, other.groups)):
            sets = [set(told) for told in (first, second) if told is not None]
            names.append(sorted(set.intersection(*sets)) if sets else None)
        if [] in names:
            return None
        return Line(one.form, names[0], names[1], one.must | other.must, one.never | other.never)

    def test_and_line_by_line(self):
        a, b, c, d, e = LINES
        own = Line("folder", ["ann"], must=0o500)
        self.kind(Kind(own) & Kind(Line("folder", ["bob", "ann"], ["a"], never=0o7)), Line("folder", ["ann"], ["a"], 0o500, 0o7))
        self.kind(Kind(a, c) & Kind.every(), a, c)
        self.kind(Kind.every() & Kind(a, c), c, a)
        self.kind(Kind(a, b) & Kind(b, a), a, b)
        self.kind(Kind(a, a) & Kind(a, Line("folder")), a)
        both = Kind(Line("folder", ["x", "y"], ["g", "h"])) & Kind(Line("folder", ["y", "z"], ["h", "k"]))
        self.kind(both, Line("folder", ["y"], ["h"]))

    def test_pairs_that_let_nothing(self):
        for one, other in (
            (Line("folder"), Line("file")), (Line("folder", ["a"]), Line("folder", ["b"])),
            (Line("folder", None, ["a"]), Line("folder", None, ["b", "c"])),
            (Line("folder", must=0o100), Line("folder", never=0o100)), (Line("folder", never=0o100), Line("folder", must=0o700)),
        ):
            self.fails(NoKind, (), lambda: Kind(one) & Kind(other))
            self.kind(Kind(one, Line("file", ["k"])) & Kind(other, Line("file", ["k"], ["k"])), *[
                Line("file", ["k"], ["k"])
            ] if other.form == "folder" else [Line("file", ["k"]), Line("file", ["k"], ["k"])])

    def test_and_of_more_than_four(self):
        one = Kind(*[Line("file", must=bit) for bit in (1, 2, 4)])
        other = Kind(*[Line("file", must=bit) for bit in (8, 16)])
        self.fails(TooMany, (4,), lambda: one & other)
        four = Kind(*[Line("file", must=bit) for bit in (1, 2)]) & other
        self.kind(four, *[Line("file", must=bit) for bit in (9, 17, 10, 18)])

    def test_no_kind_ahead_of_too_many(self):
        # Ten and more pairs, none of which lets anything.
        one = Kind(*[Line("file", must=1)] * 4)
        self.fails(NoKind, (), lambda: one & Kind(*[Line("file", never=1)] * 4))

    def test_in_place_binds_a_new_kind(self):
        one = other = Kind(LINES[0])
        one |= Kind(LINES[1])
        self.kind(one, LINES[0], LINES[1])
        self.kind(other, LINES[0])
        one &= Kind(LINES[1])
        self.kind(one, LINES[1])
        with self.assertRaises(NoKind):
            one &= Kind(LINES[0])
        self.kind(one, LINES[1])
        self.assertTrue(same(one == other, False))


if __name__ == "__main__":
    unittest.main()
