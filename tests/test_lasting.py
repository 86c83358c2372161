"""Points 2, 13 and 14 and the heading modesdown/lasting.py."""

import random
import time
import unittest

from modesdown.alike import Held, Parted, alike
from modesdown.changes import Change
from modesdown.commands import Command, Row
from modesdown.errors import TooMany
from modesdown.kinds import Kind, Line
from modesdown.lasting import ends_in, never_lost, settles
from modesdown.stands import Stands
from modesdown.users import Chief, User
from modesdown.words import stand_of
from tests import builds, joints, oracle, walker
from tests.case import Case
from tests.test_stands import ANN, BOB, MEND, NO_FOLDERS, USERS, wide_row

OPENED = Row(Command(ANN, Change.read("u+rx")))
OWN = Kind(Line("folder", ["ann"]), Line("file", ["ann"]))
SHUT = Row(Command(ANN, Change.read("u-x")))


def drawn_row(chance, users, most=3):
    return [walker.random_command(chance, users) for _ in range(chance.randrange(most + 1))]


class Checked(Case):
    def chain_of(self, got, kind, wanted):
        """The plain tree and the last path of a verdict's chain, which has as few entries as any and is of the kind."""
        self.assertIs(type(got), Parted)
        self.same([len(got.chain), got.paper, bool(got)], [wanted, ("no", got.chain), False])
        for entry in got.chain:
            self.same([type(part) for part in entry], [str, str, int, str, str])
        tree = got.as_tree()
        self.same([kind.holds(tree), tree.size()], [True, wanted])
        plain = builds.plain_chain(got.chain)
        self.same(builds.plain(tree), plain)
        return plain, list(plain)[-1]

    def held(self, got, kind, row):
        stands = Stands(kind, row, most=2000)
        self.assertIs(type(got), Held)
        self.same([got.listed, got.paper, bool(got)], [stands.listed, ("yes", stands.listed), True])


class Lost(Checked):
    def check(self, lines, row):
        kind, made = builds.kind_of(lines), builds.row_of(row)
        got, wanted = never_lost(made, kind), joints.least_lost(lines, row)
        self.same(never_lost(made, kind).paper, got.paper)
        if wanted is None:
            self.held(got, kind, made)
            return 0
        tree, last = self.chain_of(got, kind, wanted)
        self.assertIn(last, joints.lost_in(row, tree))
        # A shorter chain would do, if a command were lost further up.
        self.assertEqual(joints.lost_in(row, tree), [last])
        return wanted

    def test_against_the_oracle(self):
        chance = random.Random(81)
        told = set()
        for _ in range(250):
            users, lines = chance.choice(USERS), joints.random_kind(chance)
            if chance.random() < 0.3:
                lines = [("folder", ["ann"], None, 0o511, 0), ("folder", None, None, 0o555, 0), ("file", None, None, 0, 0)]
            told.add(self.check(lines, drawn_row(chance, users)))
        self.assertLessEqual({0, 2, 3}, told)

    def test_starts_of_several_names(self):
        chance = random.Random(82)
        told = set()
        for _ in range(120):
            users, lines = chance.choice(USERS), joints.random_kind(chance)
            row = [(*command[:4], chance.choice(["a", "a/b", "a/b/zz", "b/a", ""])) for command in drawn_row(chance, users)]
            if chance.random() < 0.6:
                # Few folders bar, so what is lost is lost deep below.
                lines = [("folder", None, None, chance.choice([0o555, 0o111]), 0), ("file", None, None, 0, 0)]
            told.add(self.check(lines, row))
        self.assertLessEqual({0, 2, 3, 4}, told)

    def test_on_trees_of_the_kind(self):
        chance = random.Random(83)
        many = [0, 0]
        for _ in range(300):
            users, lines = chance.choice(USERS), joints.random_kind(chance)
            row, tree = drawn_row(chance, users), joints.random_tree(chance, lines, 16)
            if tree is None:
                continue
            lost = joints.lost_in(row, tree)
            if never_lost(builds.row_of(row), builds.kind_of(lines)):
                self.assertEqual(lost, [])
                many[0] += len(tree) > 3
            elif lost:
                many[1] += 1
        self.assertGreater(min(many), 20)

    def test_on_the_way_only_the_next_name_is_lost(self):
        kind = Kind(Line("folder", never=0o111), Line("file"))
        found = never_lost(Row(Command(ANN, Change.read("u+r"), start="b/c")), kind)
        self.same([len(found.chain), found.chain[1][0]], [2, "b"])
        passed = Kind(Line("folder", must=0o111), Line("file"))
        # r is missing, but on the way x is enough; inside it is not.
        found = never_lost(Row(Command(ANN, Change.read("o+w"), start="b/c")), passed)
        self.same([len(found.chain), [entry[0] for entry in found.chain[:3]]], [4, ["", "b", "c"]])
        opens = Row(Command(ANN, Change.read("u+r"), start="b/c"))
        owned = Kind(Line("folder", ["ann"], must=0o111), Line("file"))
        self.same(bool(never_lost(opens, owned)), True)

    def test_what_is_missing_is_not_lost(self):
        files = Kind(Line("folder", must=0o555), Line("file"))
        self.same(bool(never_lost(Row(Command(ANN, Change.read("o+w"), start="a/b/c")), files)), True)

    def test_a_chief_loses_nothing(self):
        for start in ("", "a", "a/b/c"):
            row = Row(*[Command(Chief("cy"), Change.read("a="), order, "all", start) for order in ("first", "last")])
            self.same(never_lost(row).paper, ("yes", Stands(Kind.every(), row).listed))

    def test_without_commands(self):
        self.same(never_lost(Row()).paper, ("yes", (((),),)))
        self.same(never_lost(Row(), NO_FOLDERS).paper, ("yes", ()))

    def test_no_line_for_folders(self):
        self.same(never_lost(SHUT, NO_FOLDERS).paper, ("yes", ()))
        self.same(never_lost(SHUT, NO_FOLDERS, 1).answer, "yes")

    def test_the_kind_that_is_none(self):
        for row in (OPENED, SHUT, MEND, Row()):
            self.same(never_lost(row).paper, never_lost(row, Kind.every()).paper)
            self.same(never_lost(row).paper, never_lost(most=400, kind=None, row=row).paper)

    def test_later_commands_may_open_what_an_earlier_one_shut(self):
        own = Kind(Line("folder", ["ann"], must=0o500), Line("file"))
        late = Command(ANN, Change.read("u-x"), "last")
        again = Command(ANN, Change.read("u+x"))
        self.same([bool(never_lost(Row(*row), own)) for row in ([late], [late, again], [late, late], [again, late, again])],
                  [True, True, False, True])

    def test_too_many_whatever_the_answer_would_be(self):
        many = len(Stands(Kind.every(), SHUT))
        self.same(many, 2)
        self.fails(TooMany, (1,), never_lost, SHUT, None, 1)
        self.fails(TooMany, (1,), never_lost, SHUT, most=1)
        for most in (2, 3, 400):
            self.same(len(never_lost(SHUT, most=most).chain), 2)
        opened = Row(Command(ANN, Change.read("u+rx"), start="a"))
        own = Kind(Line("folder", ["ann"], must=0o500))
        self.same(never_lost(opened, own, most=2).listed, (((-1,),), ((1,),)))
        self.fails(TooMany, (1,), never_lost, opened, own, most=1)
        lines, row, many = wide_row()
        made = builds.row_of(row)
        self.fails(TooMany, (400,), never_lost, made)
        self.fails(TooMany, (many - 1,), never_lost, made, most=many - 1)
        self.same(never_lost(made, most=many).answer, "no")

    def test_the_same_one_for_equal_arguments(self):
        one = Row(Command(User("ann", "a", "b"), Change.read("g+w"), start="a"))
        other = Row(Command(User("ann", "b", "a"), Change.read("g+w"), start="a"))
        self.same(never_lost(one).paper, never_lost(other).paper)


def random_goal(chance, users):
    """Up to four lines; some tell owners and groups that nothing else tells."""
    lines = []
    for _ in range(chance.randint(1, 4)):
        owners = chance.choice([None, None, None, ["ann"], ["bob", "ann"], ["dora"], ["dora", "zz"]])
        groups = chance.choice([None, None, None, ["staff"], ["guests"], ["guests", "ops"]])
        must = chance.choice([0, 0, 0, 0o400, 0o100, 0o004, 0o700, 0o020])
        never = chance.choice([0, 0, 0, 0o002, 0o077, 0o022, 0o001]) & ~must
        lines.append((chance.choice(["file", "folder"]), owners, groups, must, never))
    if chance.random() < 0.7:
        lines = [("file", None, None, 0, 0)] + [line for line in lines if line[0] == "folder"][:3]
    return lines


class Ends(Checked):
    def check(self, lines, goal, row):
        kind, aim, made = builds.kind_of(lines), builds.kind_of(goal), builds.row_of(row)
        got, wanted = ends_in(made, aim, kind), joints.least_stray(lines, goal, row)
        self.same(ends_in(made, aim, kind).paper, got.paper)
        if wanted is None:
            self.held(got, kind, made)
            return 0
        tree, last = self.chain_of(got, kind, wanted)
        walker.played(row, tree)
        self.same(joints.is_let(goal, *tree[last]), False)
        return wanted

    def test_against_the_oracle(self):
        chance = random.Random(84)
        told = []
        for _ in range(200):
            users, lines = chance.choice(USERS), joints.random_kind(chance)
            told.append(self.check(lines, random_goal(chance, users), drawn_row(chance, users)))
        self.assertLessEqual({0, 1, 2}, set(told))

    def test_goals_that_are_reached(self):
        chance = random.Random(85)
        told = []
        for _ in range(150):
            row = [
                ((True, "root", ()) if chance.random() < 0.6 else (False, "ann", ()), oracle.random_change(chance, 2),
                 chance.choice(["first", "last"]), chance.choice(["all", "folders"]), chance.choice(["", "", "a"]))
                for _ in range(chance.randint(1, 3))
            ]
            lines = [("folder", None, None, chance.choice([0, 0o500, 0o555]), 0), ("file", None, None, 0, chance.choice([0, 0o111]))]
            goal = []
            for form in ("folder", "file"):
                must = chance.choice([0, 0o400, 0o500, 0o100, 0o007, 0o050])
                never = chance.choice([0, 0o022, 0o200, 0o002, 0o070, 0o111]) & ~must
                goal += [(form, None, None, must, 0), (form, None, None, 0, never)]
            if chance.random() < 0.3:
                goal = goal[:2] + [("file", None, None, 0, 0)]
            told.append(self.check(lines, goal, row))
        self.assertLessEqual({0, 1, 2}, set(told))
        self.assertGreater(told.count(0), 15)
        self.assertGreater(sum(k > 1 for k in told), 15)

    def test_on_trees_of_the_kind(self):
        chance = random.Random(86)
        many = 0
        for _ in range(400):
            users, lines = chance.choice(USERS), joints.random_kind(chance)
            row, tree = drawn_row(chance, users), joints.random_tree(chance, lines)
            goal = random_goal(chance, users)
            if tree is not None and ends_in(builds.row_of(row), builds.kind_of(goal), builds.kind_of(lines)):
                walker.played(row, tree)
                for entry in tree.values():
                    self.assertTrue(joints.is_let(goal, *entry))
                    many += 1
        self.assertGreater(many, 20)

    def test_several_lines_of_a_goal_together(self):
        # Each letter by itself is let by a line, but no line lets them all.
        kind = Kind(Line("folder", must=0o555))
        goal = Kind(Line("folder", must=0o400, never=0o002), Line("folder", must=0o002, never=0o020))
        found = ends_in(Row(), goal, kind)
        self.same([len(found.chain), found.chain[0][2] & 0o022], [1, 0o022])
        wider = Kind(*goal.lines, Line("folder", must=0o022))
        self.same(ends_in(Row(), wider, kind).paper, ("yes", (((),),)))

    def test_owners_and_groups_that_the_goal_alone_tells(self):
        kind = Kind(Line("folder", must=0o555), Line("file"))
        mixed = Kind(Line("folder"), Line("file", ["dora"], never=0o222), Line("file", ["ann", "bob"]), Line("file", ["cy", "eve"]))
        found = ends_in(Row(), mixed, kind)
        self.same(len(found.chain), 2)
        self.assertNotIn(found.chain[1][3], ["ann", "bob", "cy", "eve"])
        # Of all entries of others, a line lets those of one owner only with some modes; so only such an owner shows it.
        told = Kind(Line("file", ["dora"], ["guests"], never=0o222), Line("folder"))
        narrow = Kind(Line("folder", must=0o555), Line("file", ["dora", "eve"], ["guests", "ops"]))
        found = ends_in(Row(), Kind(*told.lines, Line("file", ["eve"]), Line("file", None, ["ops"])), narrow)
        self.same([found.chain[1][1], found.chain[1][3:]], ["file", ("dora", "guests")])
        self.assertTrue(found.chain[1][2] & 0o222)
        self.same(bool(ends_in(Row(Command(Chief("cy"), Change.read("a-w"))), told, Kind(*told.lines))), True)

    def test_a_bit_taken_from_all_alone(self):
        goal = Kind(Line("folder", never=0o002), Line("file", never=0o002))
        plain = Command(ANN, Change.read("o-w"))
        self.same([bool(ends_in(Row(plain), goal)), bool(ends_in(Row(Command(Chief("cy"), Change.read("o-w"))), goal))], [False, True])
        opened = Kind(Line("folder", ["ann"], must=0o500), Line("file", ["ann"]))
        self.same([bool(ends_in(Row(plain), goal, opened)), len(ends_in(Row(plain), goal, OWN).chain)], [True, 2])
        files = Row(Command(Chief("cy"), Change.read("o-w"), kinds="files"))
        self.same([len(ends_in(files, goal).chain), bool(ends_in(files, Kind(*goal.lines, Line("folder"))))], [1, True])
        start = Row(Command(Chief("cy"), Change.read("o-w"), start="a"))
        self.same(len(ends_in(start, Kind(Line("folder"), Line("file", never=0o002))).chain), 2)

    def test_the_top_is_a_folder(self):
        self.same(len(ends_in(Row(), Kind(Line("folder"))).chain), 2)
        self.same(ends_in(Row(), Kind(Line("folder"))).chain[1][1], "file")
        self.same(len(ends_in(Row(), Kind(Line("file"))).chain), 1)
        self.same(bool(ends_in(Row(), Kind(Line("folder")), Kind(Line("folder")))), True)

    def test_no_line_for_folders(self):
        for goal in (OWN, NO_FOLDERS, Kind(Line("folder", must=0o777))):
            self.same(ends_in(SHUT, goal, NO_FOLDERS, 1).paper, ("yes", ()))

    def test_the_kind_that_is_none(self):
        for row in (OPENED, SHUT, MEND, Row()):
            for goal in (Kind.every(), OWN):
                self.same(ends_in(row, goal).paper, ends_in(row, goal, Kind.every()).paper)
                self.same(ends_in(row, goal).paper, ends_in(kind=None, goal=goal, row=row, most=400).paper)
            self.same(ends_in(row, Kind.every()).answer, "yes")

    def test_too_many_whatever_the_answer_would_be(self):
        for goal in (Kind.every(), Kind(Line("file"))):
            self.fails(TooMany, (1,), ends_in, SHUT, goal, None, 1)
            self.fails(TooMany, (1,), ends_in, SHUT, goal, most=1)
            for most in (2, 3):
                self.same(bool(ends_in(SHUT, goal, most=most)), goal == Kind.every())
        lines, row, many = wide_row()
        made = builds.row_of(row)
        self.fails(TooMany, (400,), ends_in, made, Kind.every())
        self.fails(TooMany, (many - 1,), ends_in, made, Kind(Line("file")), most=many - 1)
        self.same(ends_in(made, Kind.every(), most=many).answer, "yes")


class Settles(Checked):
    def check(self, lines, row, rounds):
        kind, made = builds.kind_of(lines), builds.row_of(row)
        got = settles(made, rounds, kind)
        self.assertIs(type(got), tuple)
        self.assertIs(type(got[1]), list)
        n, verdicts = got
        answers = [verdict.answer for verdict in verdicts]
        if n is None:
            self.same(answers, ["no"] * (rounds + 1))
        else:
            self.same([answers, n <= rounds], [["no"] * n + ["yes"], True])
        for k, verdict in enumerate(verdicts):
            self.same(verdict.paper, alike(made * k, made * (k + 1), kind).paper)
            wanted = joints.least_chain(lines, row * k, row * (k + 1))
            self.same(wanted, None if verdict else len(verdict.chain))
            if not verdict:
                self.played(row, k, builds.plain_chain(verdict.chain))
        return n

    def played(self, row, k, tree):
        """The row, done k times and once more, leaves other modes at the last entry."""
        for _ in range(k):
            walker.played(row, tree)
        last = list(tree)[-1]
        before = tree[last][1]
        walker.played(row, tree)
        self.assertNotEqual(tree[last][1], before)

    def test_against_playing(self):
        chance = random.Random(87)
        told = []
        for _ in range(45):
            users, lines = chance.choice(USERS), joints.random_kind(chance)
            if chance.random() < 0.6:
                lines = [("folder", None, None, 0o555, 0), ("file", None, None, 0, 0)]
            row = drawn_row(chance, users, 2)
            rounds = chance.randint(0, 10 // max(1, len(row)) - 1)
            told.append(self.check(lines, row, min(rounds, 3)))
        self.assertLessEqual({None, 0, 1}, set(told))

    def test_rounds_on_trees(self):
        # Behind the number of rounds that is told, nothing changes any more on any tree.
        chance = random.Random(88)
        seen = set()
        for _ in range(80):
            users = chance.choice(USERS)
            row = drawn_row(chance, users, 2)
            lines = [("folder", None, None, 0o555, 0), ("file", None, None, 0, 0)]
            n = settles(builds.row_of(row), 3 if len(row) > 1 else 4, builds.kind_of(lines))[0]
            tree = joints.random_tree(chance, lines)
            if n is not None and tree is not None:
                for _ in range(n):
                    walker.played(row, tree)
                before = builds.copied(tree)
                walker.played(row, tree)
                self.same(tree, before)
                seen.add(n)
        self.assertLessEqual({0, 1, 2}, seen)

    def test_the_least_number(self):
        wide_open = Kind(Line("folder", must=0o555), Line("file"))
        turn = Row(Command(Chief("cy"), Change.read("g=u,u=o")))
        self.same([settles(turn, 3, wide_open)[0], settles(turn, 1, wide_open)[0], settles(turn, 0, wide_open)[0]], [2, None, None])
        self.same([len(settles(turn, k, wide_open)[1]) for k in (0, 1, 2, 5, 9)], [1, 2, 3, 3, 3])
        around = Row(Command(Chief("cy"), Change.read("u=g,g=o,o=u")))
        self.same([settles(around, 9, wide_open)[0], len(settles(around, 9)[1])], [None, 10])

    def test_what_does_nothing(self):
        for row in (Row(), Row(Command(ANN, Change.read("u+")))):
            self.same(settles(row, 2), (0, [alike(row * 0, row)]))
        self.same(settles(Row(), 10 ** 60)[0], 0)
        self.same([settles(SHUT, 1, NO_FOLDERS)[0], len(settles(SHUT, 1, NO_FOLDERS)[1])], [0, 1])

    def test_without_a_kind(self):
        self.same(settles(MEND, 2), settles(MEND, 2, Kind.every()))
        self.same(settles(MEND, 2), settles(most=400, kind=None, rounds=2, row=MEND))
        self.same([settles(MEND, 2)[0], len(settles(MEND, 2)[1])], [None, 3])

    def test_too_many_commands_ahead_of_too_many_joint_stands(self):
        for row, last in ((MEND, 9), (MEND * 2, 4), (MEND * 3, 2), (MEND * 5, 1), (MEND * 10, 0), (MEND * 4, 1)):
            self.same(settles(row, last, NO_FOLDERS)[0], 0)
            for rounds in (last + 1, last + 2, 10 ** 30):
                self.fails(TooMany, (10,), settles, row, rounds)
                self.fails(TooMany, (10,), settles, row, rounds, None, 1)
            self.fails(TooMany, (1,), settles, row, last, None, 1)
        self.same(settles(Row(), 11, most=1)[0], 0)

    def test_too_many_joint_stands(self):
        self.fails(TooMany, (2,), settles, MEND, 1, most=2)
        self.same(settles(MEND, 0, most=2)[0], None)
        lines, row, many = wide_row()
        self.fails(TooMany, (400,), settles, builds.row_of(row), 0)

    def test_lists_belong_to_the_caller(self):
        one, other = settles(MEND, 2), settles(MEND, 2)
        one[1].clear()
        self.same(len(other[1]), 3)
        self.same(len(settles(MEND, 2)[1]), 3)


class Long(Case):
    def test_rows_of_ten_on_a_kind_of_four_lines(self):
        users = [User("ann", "g", "h"), Chief("bob", "i", "j"), User("cy", "k", "g")]
        lines = [
            Line("folder", ["ann", "dd"], ["g", "l"], 0, 0o007), Line("file", None, ["h", "m"], 0o200, 0),
            Line("folder", ["bob", "cy"], None, 0, 0o020), Line("file", ["cy", "ff"], ["n", "i"]),
        ]
        goal = Kind(
            Line("folder", ["ee", "ff"], ["a", "b"], 0o400, 0), Line("file", ["gg", "hh"], ["c", "d"], 0, 0o002),
            Line("folder", ["ii", "jj"], None, 0o100, 0o002), Line("file", None, ["e", "f"]),
        )
        texts = ["u+rx", "g=u", "o=g,u-w", "a+X", "u=g,g=o,o=u", "g-x", "o+r", "u+x", "u=rwx,g=rx,o=", "o-w"]
        row = Row(*[
            Command(users[k % 3], Change.read(text), ("first", "last")[k % 2], "all", ("", "a", "", "a/b", "")[k % 5])
            for k, text in enumerate(texts)
        ])
        began = time.monotonic()
        for kind in (Kind(*lines), Kind.every()):
            for aim in (goal, Kind.every()):
                found = ends_in(row, aim, kind, 2000)
                self.assertTrue(found or kind.holds(found.as_tree()))
            found = never_lost(row, kind, 2000)
            self.assertFalse(found)
            self.assertTrue(kind.holds(found.as_tree()))
            path = found.as_tree().rows()[-1][0]
            self.assertIn(-1, stand_of(row, found.as_tree(), path))
        self.assertLess(time.monotonic() - began, 60)


if __name__ == "__main__":
    unittest.main()
