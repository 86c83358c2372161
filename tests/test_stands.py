"""Points 2 and 11 and what modesdown/stands.py tells of Stands."""

import random
import time
import unittest

from modesdown.changes import Change
from modesdown.commands import Command, Row
from modesdown.errors import BadCommand, NoStand, TooMany
from modesdown.kinds import Kind, Line
from modesdown.modes import Mode
from modesdown.stands import Stands
from modesdown.trees import Tree
from modesdown.users import Chief, User
from modesdown.words import stand_of
from tests import builds, joints, walker
from tests.case import Case
from tests.samples import any_values, same

USERS = [
    [(False, "ann", ("staff",))], [(False, "ann", ()), (False, "bob", ("staff", "ops"))], [(True, "root", ())],
    [(False, "ann", ("staff",)), (True, "cy", ()), (False, "bob", ("ops",))],
    [(False, "ann", ("staff",)), (False, "cy", ("none",)), (False, "bob", ("ops", "staff"))],
]
ANN, BOB = User("ann", "staff"), User("bob", "staff")
MEND = Row(Command(ANN, Change.read("u+rx"), "last"))
NO_FOLDERS = Kind(Line("file"), Line("file", ["ann"]))


def drawn(chance, rows=(1, 1, 2, 3), most=6):
    """Plain rows and lines, not too many of them for the oracle."""
    while True:
        users, lines = chance.choice(USERS), joints.random_kind(chance)
        told = [
            [walker.random_command(chance, users) for _ in range(chance.randrange(4))] for _ in range(chance.choice(rows))
        ]
        if sum(len(row) for row in told) <= most:
            return lines, told


def made(lines, rows, **named):
    return Stands(builds.kind_of(lines), *[builds.row_of(row) for row in rows], **named)


def wide(many=2):
    """Plain lines and so many rows with more than 400 joint stands, and their number."""
    chance = random.Random(50)
    while True:
        rows = [[walker.random_command(chance, USERS[4]) for _ in range(8)] for _ in range(many)]
        try:
            stands = made(joints.EVERY, rows, most=2000)
        except TooMany:
            continue
        if len(stands) > 400:
            return joints.EVERY, rows, len(stands)


def wide_row():
    """Plain lines and one row of ten commands with more than 400 joint stands, and their number: it took long to find."""
    chance = random.Random(60387)
    row = [walker.random_command(chance, USERS[4]) for _ in range(10)]
    return joints.EVERY, row, len(made(joints.EVERY, [row], most=2000))


def words_of(joint):
    return tuple(tuple(k for k, number in enumerate(stand) if number != -1) for stand in joint)


class Listed(Case):
    def test_against_joint_stands_of_all_folder_types(self):
        chance = random.Random(51)
        sizes, deep = set(), set()
        for _ in range(150):
            lines, rows = drawn(chance)
            levels = joints.levels(lines, rows)
            stands = made(lines, rows)
            flat = [joint for level in levels for joint in level]
            self.same(stands.listed, tuple(sorted(flat)))
            self.same(list(stands.each()), flat)
            self.same(len(stands), len(flat))
            self.same(stands.told, tuple(sorted({words_of(joint) for joint in flat})))
            sizes.add(len(flat))
            deep.add(len(levels))
        self.assertGreater(len(sizes), 12)
        self.assertLessEqual({0, 1, 2, 3, 4}, deep)

    def test_folders_with_any_w_change_nothing(self):
        chance = random.Random(52)
        for _ in range(12):
            lines, rows = drawn(chance, (1, 2), 3)
            levels = joints.levels(lines, rows, True)
            self.same(list(made(lines, rows).each()), [joint for level in levels for joint in level])

    def test_entries_of_trees_of_the_kind(self):
        chance = random.Random(53)
        many = 0
        for _ in range(250):
            lines, rows = drawn(chance, (1, 2, 3), 8)
            tree = joints.random_tree(chance, lines)
            if tree is None:
                continue
            stands = made(lines, rows)
            told = [walker.played(row, builds.copied(tree))[1] for row in rows]
            for path in tree:
                joint = tuple(one[path] for one in told)
                if path:
                    self.same(joint in stands, True)
                    many += 1
                for below in walker.children(tree, path):
                    self.assertIn(tuple(one[below] for one in told), stands.nexts(joint))
        self.assertGreater(many, 300)

    def test_closed_and_nothing_besides(self):
        chance = random.Random(54)
        for _ in range(60):
            lines, rows = drawn(chance)
            stands = made(lines, rows)
            top = joints.top_of(rows)
            reached = set(stands.nexts(top))
            for joint in stands.listed:
                reached |= set(stands.nexts(joint))
            self.same(tuple(sorted(reached)), stands.listed)

    def test_without_commands(self):
        for rows in ([Row()], [Row(), Row()], [Row(), Row(), Row()]):
            stands = Stands(Kind.every(), *rows)
            self.same([stands.listed, stands.told, len(stands)], [(((),) * len(rows),)] * 2 + [1])
            self.same(stands.nexts(((),) * len(rows)), stands.listed)
            chain, name = stands.way(((),) * len(rows))
            self.same([len(chain), chain[0][:2]], [1, ("", "folder")])

    def test_no_line_for_folders(self):
        for rows in ([MEND], [MEND, MEND * 2], [Row(), MEND, MEND]):
            stands = Stands(NO_FOLDERS, *rows, most=1)
            top = tuple((0,) * len(row) for row in rows)
            self.same([stands.listed, stands.told, len(stands), list(stands.each())], [(), (), 0, []])
            self.same([top in stands, stands.nexts(top)], [False, ()])
            self.fails(NoStand, (top,), stands.way, top)

    def test_the_top_s_is_listed_only_if_it_comes_about_below(self):
        shut = Row(Command(ANN, Change.read("a-x")))
        own = Kind(Line("folder", ["ann"]))
        self.same(Stands(own, shut).listed, (((-1,),),))
        self.same(((0,),) in Stands(own, shut), False)
        self.same(((0,),) in Stands(Kind.every(), shut), True)
        away = Row(Command(Chief("cy"), Change.read("a-x"), start="a"))
        self.same(Stands(Kind.every(), away).listed, (((-1,),), ((1,),)))

    def test_a_chief_is_never_barred(self):
        row = Row(Command(Chief("cy"), Change.read("a=")))
        self.same([Stands(Kind.every(), row).listed, Stands(Kind.every(), row * 3).told], [(((0,),),), (((0, 1, 2),),)])

    def test_names_ahead(self):
        for starts, listed in (
            (("a", "a/b"), (((-1, -1),), ((1, -1),), ((1, 1),), ((1, 2),))),
            (("a", "b/c"), (((-1, -1),), ((-1, 1),), ((-1, 2),), ((1, -1),))),
        ):
            row = Row(*[Command(Chief("cy"), Change.read("u+"), start=start) for start in starts])
            self.same(Stands(Kind.every(), row).listed, listed)

    def test_more_names_ahead_than_letters(self):
        letters = "abcdefghijklmnopqrstuvwxyz"
        commands = [Command(Chief("cy"), Change.read("u+"), start=letter) for letter in letters] * 2
        stands = Stands(Kind.every(), Row(*commands[:10]), Row(*commands[10:20]), Row(*commands[20:30]))
        self.same(len(stands), 27)
        self.same(((-1,) * 10,) * 3 in stands, True)


class Asked(Case):
    def setUp(self):
        self.both = Stands(Kind.every(), MEND, MEND * 2)

    def test_rows(self):
        for kind in (Kind.every(), NO_FOLDERS):
            self.fails(BadCommand, ("rows",), Stands, kind)
            self.fails(BadCommand, ("rows",), Stands, kind, MEND, MEND, MEND, MEND)
            self.fails(BadCommand, ("rows",), Stands, kind, *[MEND] * 5, most=1)
            self.fails(BadCommand, ("rows",), Stands, kind, most=1)

    def test_just_above_the_bound(self):
        chance = random.Random(55)
        for _ in range(60):
            lines, rows = drawn(chance)
            many = len(made(lines, rows))
            if many > 1:
                for most in {1, many - 1}:
                    self.fails(TooMany, (most,), made, lines, rows, most=most)
            if many:
                self.same(len(made(lines, rows, most=many)), many)
            self.same(len(made(lines, rows, most=many + 1)), many)

    def test_the_usual_bound(self):
        self.same([Stands.MOST, self.both.MOST], [400, 400])
        lines, rows, many = wide()
        self.fails(TooMany, (400,), made, lines, rows)
        self.fails(TooMany, (many - 1,), made, lines, rows, most=many - 1)
        self.same(len(made(lines, rows, most=many)), many)
        lines, row, many = wide_row()
        self.fails(TooMany, (400,), made, lines, [row])
        self.fails(TooMany, (many - 1,), made, lines, [row], most=many - 1)

    def test_in_with_any_value(self):
        for value in any_values() + [
            ((0,), (0, 0)), ((0,), (0, True)), ((False,), (0, 0)), [(0,), (0, 0)], ([0], (0, 0)), ((0,), [0, 0]), ((0,),),
            ((0,), (0, 0), (0,)), ((0,), (0,)), ((0, 0), (0,)), ((0,), (-1, 0)), ((-1,), (-1, 0)), ((1,), (0, 0)), ((0.0,), (0, 0)),
            ((-1,), (-1, -1)), ((-1,), (0, 0)), (0, 0), ((), ()), None,
        ]:
            wanted = any(same(value, joint) for joint in self.both.listed)
            self.same(value in self.both, wanted)

    def test_no_stand_for_what_is_none(self):
        top = ((0,), (0, 0))
        shut = Stands(Kind(Line("folder", ["ann"])), Row(Command(ANN, Change.read("a-x"))))
        for stands, others in ((self.both, [((-1,), (0, 0)), ((0,), (-1, 0)), ((0,), (True, 0))]), (shut, [((0, 0),), ((1,),)])):
            for value in any_values() + others + [[(0,), (0, 0)], ((0.0,),)]:
                if not any(same(value, joint) for joint in stands.listed):
                    self.fails(NoStand, (value,), stands.way, value)
                    self.fails(NoStand, (value,), stands.nexts, value)
        self.fails(NoStand, (((0,),),), shut.way, ((0,),))
        self.same(shut.nexts(((0,),)), (((-1,),),))
        self.same(self.both.nexts(joint=top), self.both.listed)

    def test_equal(self):
        kind = Kind(Line("file"), Line("folder"))
        same_row = Row(Command(User("ann", "staff"), Change.read("u+rx"), "last"))
        self.same([self.both == Stands(kind, same_row, same_row * 2, most=5), self.both != Stands(kind, MEND, MEND * 2)], [True, False])
        for other in (
            Stands(Kind(Line("folder"), Line("file")), MEND, MEND * 2), Stands(Kind.every(), MEND), Stands(Kind.every(), MEND * 2, MEND),
            Stands(Kind.every(), MEND, MEND), Stands(Kind.every(), MEND, MEND * 2, Row()),
        ):
            self.same([self.both == other, self.both != other], [False, True])
        for value in any_values() + [self.both.listed]:
            self.same([self.both == value, value == self.both], [False, False])

    def test_properties_are_only_read(self):
        for name in ("listed", "told"):
            with self.assertRaises(AttributeError):
                setattr(self.both, name, ())

    def test_asked_again(self):
        self.same([list(self.both.each()), self.both.listed, self.both.told], [list(self.both.each()), self.both.listed, self.both.told])
        for joint in self.both.listed:
            self.same([self.both.way(joint), self.both.nexts(joint)], [self.both.way(joint), self.both.nexts(joint)])


class Next(Case):
    def test_against_all_folder_types(self):
        chance = random.Random(56)
        for _ in range(60):
            lines, rows = drawn(chance, (1, 2, 3), 5)
            stands, types = made(lines, rows), joints.folders(lines, rows)
            for joint in {joints.top_of(rows), *stands.listed[:12]}:
                self.same(stands.nexts(joint), tuple(sorted(joints.next_to(types, rows, joint))))


class Ways(Case):
    def test_shortest_chains_of_the_kind_played(self):
        chance = random.Random(57)
        many = 0
        for _ in range(120):
            lines, rows = drawn(chance)
            stands, kind = made(lines, rows), builds.kind_of(lines)
            told = [builds.row_of(row) for row in rows]
            deepest = max([len(joints.names_of(command)) for row in rows for command in row] or [0])
            commands = sum(len(row) for row in rows)
            for k, level in enumerate(joints.levels(lines, rows)):
                for joint in level:
                    chain, name = stands.way(joint)
                    self.assertIs(type(chain), tuple)
                    self.same(len(chain), k + 1)
                    self.assertLessEqual(len(chain), max(1, deepest + commands))
                    self.check(kind, told, joint, chain, name)
                    many += 1
        self.assertGreater(many, 400)

    def check(self, kind, rows, joint, chain, name):
        """The joint stand is that of an entry with this name below the chain's last folder."""
        for entry in chain:
            self.same([type(part) for part in entry], [str, str, int, str, str])
        self.same([chain[0][0], {entry[1] for entry in chain}], ["", {"folder"}])
        path, told = "", []
        for below, *entry in (*chain, (name, "file", 0, "a", "a")):
            path = path + "/" + below if path else below
            told.append((path, *entry))
        tree = Tree.of(*told)
        self.same(kind.holds(Tree.of(*told[:-1])), True)
        self.same(tuple(stand_of(row, tree, path) for row in rows), joint)
        for row, stand in zip(rows, joint):
            left = tree.copy()
            row(left)
            self.same(stand_of(row, tree, path), stand)

    def test_the_same_one_for_equal_arguments(self):
        chance = random.Random(58)
        for _ in range(40):
            lines, rows = drawn(chance)
            turned = [
                [((one[0][0], one[0][1], one[0][2][::-1]), *one[1:]) for one in row] for row in rows
            ]
            one, other = made(lines, rows), made(lines, turned)
            self.same(one == other, True)
            for joint in one.listed:
                self.same(one.way(joint), other.way(joint))

    def test_w_only_where_it_must_stand(self):
        kind = Kind(Line("folder", must=0o020), Line("file"))
        stands = Stands(kind, MEND, MEND * 2)
        for joint in stands.listed:
            chain, name = stands.way(joint)
            self.same({entry[2] & 0o222 for entry in chain}, {0o020})


class Long(Case):
    def test_rows_of_ten_on_a_kind_of_four_lines(self):
        lines = [
            Line("folder", ["ann", "dd"], ["g", "l"], 0, 0o007), Line("folder", None, ["h", "m"], 0o200, 0),
            Line("folder", ["bob", "ee"], None, 0, 0o020), Line("folder", ["cy", "ff"], ["n", "i"]),
        ]
        users = [User("ann", "g", "h"), User("bob", "i", "j"), User("cy", "k", "g")]
        changes = [Change.read(text) for text in (
            "u+x,g=u,o=g,u-r,a+r,g-w,o+w,u=rwx", "u=g,g=o,o=u", "g-x", "o+r", "a+rx", "u-x", "o=g", "ug-r", "go=u", "a+X",
        )]
        starts = ["", "a", "a/b", "b/a/c", ""]
        rows = []
        for turn in (0, 1, 2):
            rows.append(Row(*[
                Command(users[(k + turn) % 3], changes[(k * (turn + 1)) % 10], ("first", "last")[(k + turn) % 2], "folders", starts[k % 5])
                for k in range(10)
            ]))
        began = time.monotonic()
        for kind in (Kind(*lines), Kind.every(), Kind(Line("folder"), *lines[:3])):
            for told in (rows[:1], rows[:2], rows):
                for most in (400, 2000):
                    try:
                        stands = Stands(kind, *told, most=most)
                    except TooMany as error:
                        self.same(error.most, most)
                    else:
                        self.assertLessEqual(len(stands), most)
                        for joint in stands.listed[::50]:
                            chain, name = stands.way(joint)
                            self.assertLessEqual(len(chain), 3 + 10 * len(told))
                            for entry in chain:
                                self.same(kind.lets("folder", Mode(entry[2]), entry[3], entry[4]), True)
        self.assertLess(time.monotonic() - began, 60)


if __name__ == "__main__":
    unittest.main()
