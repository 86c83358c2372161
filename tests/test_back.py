"""Points 2 and 16 and the heading modesdown/back.py."""

import itertools
import random
import time
import unittest

from modesdown.alike import Held, Parted
from modesdown.back import least_row, leads_back
from modesdown.changes import Change
from modesdown.commands import Command, Row
from modesdown.errors import NoEntry, TooMany
from modesdown.kinds import Kind, Line
from modesdown.stands import Stands
from modesdown.users import Chief, User
from modesdown.words import stand_of, word_of
from tests import builds, joints, walker
from tests.case import Case
from tests.samples import described
from tests.test_stands import ANN, NO_FOLDERS, USERS, wide_row

OWN = Kind(Line("folder", ["ann"]), Line("file", ["ann"]))
SHUT = Row(Command(ANN, Change.read("u-x")))
OPENED = Row(Command(ANN, Change.read("u+rx")))
WALK = Command(ANN, Change.read("o-w"))
TEXTS = ["u-x", "a-x", "u+rx", "a+rx", "u-r", "u+x", "a=", "u=g", "o-w", "a+X"]


def drawn(chance, users):
    def row(most):
        return [
            (chance.choice(users), chance.choice(TEXTS), chance.choice(["first", "last"]), chance.choice(["all", "all", "folders"]),
             chance.choice(["", "", "", "a", "a/b"])) for _ in range(chance.randint(0, most))
        ]
    command = row(1)
    while not command:
        command = row(1)
    return row(2), row(2), command[0]


class Led(Case):
    def check(self, lines, row, more, command):
        kind = builds.kind_of(lines)
        one, two, last = builds.row_of(row), builds.row_of(more), builds.command_of(command)
        got = leads_back(one, two, last, kind, 2000)
        self.same(leads_back(one, two, last, kind, most=2000).paper, got.paper)
        whole = row + more + [command]
        wanted = joints.least_left_out(lines, command, whole)
        if wanted is None:
            stands = Stands(kind, Row(last), one + two + Row(last), most=2000)
            self.assertIs(type(got), Held)
            self.same([got.listed, got.paper], [stands.listed, ("yes", stands.listed)])
            return 0
        self.assertIs(type(got), Parted)
        self.same([len(got.chain), got.paper], [wanted, ("no", got.chain)])
        tree = got.as_tree()
        self.same([kind.holds(tree), builds.plain(tree)], [True, builds.plain_chain(got.chain)])
        path = tree.rows()[-1][0]
        plain = builds.plain(tree)
        self.assertIn(path, walker.Walk(command, builds.copied(plain)).came)
        for told in row + more:
            walker.Walk(told, plain)
        self.assertNotIn(path, walker.Walk(command, plain).came)
        return wanted

    def test_against_the_oracle(self):
        chance = random.Random(111)
        told = set()
        for _ in range(200):
            users, lines = chance.choice(USERS), joints.random_kind(chance)
            told.add(self.check(lines, *drawn(chance, users)))
        self.assertLessEqual({0, 2, 3}, told)

    def test_on_trees_row_by_row(self):
        chance = random.Random(112)
        many = 0
        for _ in range(600):
            users, lines = chance.choice(USERS), joints.random_kind(chance)
            row, more, command = drawn(chance, users)
            tree = joints.random_tree(chance, lines)
            if tree is None or not leads_back(*[builds.row_of(one) for one in (row, more)], builds.command_of(command),
                                              builds.kind_of(lines), 2000):
                continue
            before = walker.Walk(command, builds.copied(tree)).came
            for one in row + more:
                walker.Walk(one, tree)
            self.assertLessEqual(set(before), set(walker.Walk(command, tree).came))
            many += len(before) > 2
        self.assertGreater(many, 40)

    def test_folders_one_by_one(self):
        # On folders that ann owns only the r and the x of the owner play a part.
        for texts, led in (
            (["u-x"], False), (["u-x", "u+x"], True), (["u-x", "u+rx"], True), (["o-x"], True), (["u-r", "u+x"], False),
            (["u+rx"], True), (["u=", "u+r", "u+x"], True), (["u=g", "u+x,u+r"], True), (["u-x", "u+r"], False),
            (["u+rx", "u-r"], False), (["u+rx", "u-r", "u=rx"], True), (["u+rx,u-x", "u+x,u-r"], False),
        ):
            row = Row(*[Command(ANN, Change.read(text)) for text in texts])
            self.same(bool(leads_back(row, Row(), WALK, OWN)), led)
            for k in range(len(row)):
                first, more = [row[at] for at in range(k)], [row[at] for at in range(k, len(row))]
                self.same(bool(leads_back(Row(*first), Row(*more), WALK, OWN)), led)

    def test_the_joint_stands_are_of_these_rows(self):
        found = leads_back(SHUT, OPENED, WALK, OWN)
        self.same(found.listed, Stands(OWN, Row(WALK), SHUT + OPENED + WALK).listed)
        self.same(found.listed, (((-1,), (-1, 0, 0)), ((0,), (-1, 0, 0))))

    def test_on_the_way_and_inside(self):
        away = Command(Chief("cy"), Change.read("a="), start="a")
        deep = Command(ANN, Change.read("o-w"), start="a/b")
        found = leads_back(Row(away), Row(), deep)
        self.same([len(found.chain), [entry[0] for entry in found.chain]], [3, ["", "a", "b"]])
        passed = leads_back(Row(away), Row(Command(Chief("cy"), Change.read("a+x"), start="a")), deep)
        self.same([len(passed.chain), [entry[0] for entry in passed.chain[:3]]], [4, ["", "a", "b"]])
        self.same(bool(leads_back(Row(away), Row(Command(Chief("cy"), Change.read("a+rx"), start="a")), deep)), True)
        inside = Command(ANN, Change.read("o-w"), start="a")
        self.same(bool(leads_back(Row(away), Row(Command(Chief("cy"), Change.read("a+x"), start="a")), inside)), False)
        self.same(bool(leads_back(Row(away), Row(Command(Chief("cy"), Change.read("a+rx"), start="a")), inside)), True)
        self.same(bool(leads_back(Row(away), Row(), Command(Chief("bob"), Change.read("o-w")))), True)
        self.same(bool(leads_back(Row(away), Row(), Command(ANN, Change.read("o-w"), start="c"))), True)

    def test_another_user_leads_back(self):
        shut = Row(Command(ANN, Change.read("a-x"), "last"))
        bob = User("bob")
        walk = Command(bob, Change.read("o-w"))
        self.same(bool(leads_back(shut, Row(Command(ANN, Change.read("a+rx"))), walk)), True)
        self.same(bool(leads_back(shut, Row(Command(bob, Change.read("a+rx"))), walk)), False)
        self.same(bool(leads_back(Row(), Row(), walk)), True)
        self.same(bool(leads_back(SHUT, Row(), walk)), True)

    def test_what_the_rows_are_not_does_not_count(self):
        # The command comes to more than it would have come to.
        self.same(bool(leads_back(OPENED, Row(), WALK)), True)
        self.same(bool(leads_back(Row(), OPENED, WALK)), True)

    def test_no_line_for_folders_and_no_kind(self):
        self.same(leads_back(SHUT, Row(), WALK, NO_FOLDERS, 1).paper, ("yes", ()))
        for row, more in ((SHUT, Row()), (SHUT, OPENED), (Row(), Row())):
            self.same(leads_back(row, more, WALK).paper, leads_back(row, more, WALK, Kind.every()).paper)
            self.same(leads_back(row, more, WALK).paper, leads_back(most=400, kind=None, command=WALK, more=more, row=row).paper)

    def test_rows_of_ten_and_eleven_commands(self):
        own = Kind(Line("folder", ["ann"]))
        for row, more in ((9, 0), (0, 9), (4, 5), (8, 1)):
            self.same(bool(leads_back(SHUT * row, OPENED * more, WALK, own)), more > 0 or row == 0)
        for row, more in ((10, 0), (0, 10), (5, 5), (9, 1), (10, 10), (6, 7)):
            self.fails(TooMany, (10,), leads_back, SHUT * row, OPENED * more, WALK, own)
            self.fails(TooMany, (10,), leads_back, SHUT * row, OPENED * more, WALK, NO_FOLDERS, most=1)
            self.fails(TooMany, (10,), leads_back, SHUT * row, OPENED * more, WALK, None, 1)

    def test_too_many_joint_stands_whatever_the_answer_would_be(self):
        for row, more in ((SHUT, Row()), (Row(), Row()), (SHUT, OPENED)):
            many = len(Stands(OWN, Row(WALK), row + more + WALK))
            self.same(leads_back(row, more, WALK, OWN, many).answer, leads_back(row, more, WALK, OWN).answer)
            if many > 1:
                self.fails(TooMany, (many - 1,), leads_back, row, more, WALK, OWN, many - 1)
                self.fails(TooMany, (1,), leads_back, row, more, WALK, OWN, most=1)
        lines, row, many = wide_row()
        made = builds.row_of(row[:9])
        self.fails(TooMany, (100,), leads_back, made, Row(), WALK, most=100)


class Asked:
    """Asks that answers by a table, and keeps what it was asked."""

    def __init__(self, true=(), error=None):
        self.true, self.error, self.rows = true, error, []

    def __call__(self, row):
        self.rows.append(row)
        if self.error is not None and len(self.rows) == self.error:
            raise NoEntry("here")
        return Held(()) if len(self.rows) in self.true else Parted((("", "folder", len(self.rows), "ann", "g"),))


def in_order(many, longest):
    """All tuples of indexes, by their lengths and then ascending."""
    return [one for length in range(longest + 1) for one in itertools.product(range(many), repeat=length)]


MENU = tuple(Command(ANN, Change.read(text)) for text in ("u+r", "u+x", "o-r", "o+w", "a=", "g=u"))


class Least(Case):
    def test_all_rows_in_their_order(self):
        for many in range(7):
            for longest in range(6 if many < 4 else 4):
                asks = Asked()
                menu = list(MENU[:many]) if many % 2 else MENU[:many]
                got = least_row(menu, asks, longest)
                self.assertIs(type(got), tuple)
                indexes, verdict, ahead = got
                self.same([indexes, verdict, type(ahead)], [None, None, list])
                wanted = in_order(many, longest)
                self.same([one for one, _ in ahead], wanted)
                self.same([one.chain[0][2] for _, one in ahead], list(range(1, len(wanted) + 1)))
                self.same([type(pair) for pair in ahead], [tuple] * len(wanted))
                self.same(asks.rows, [Row(*[MENU[at] for at in one]) for one in wanted])

    def test_the_first_true_verdict_and_no_question_behind_it(self):
        wanted = in_order(3, 3)
        for first in (1, 2, 3, 4, 5, 9, 13, 14, 40):
            asks = Asked((first, first + 1, 40))
            indexes, verdict, ahead = least_row(MENU[:3], asks, 3)
            self.same([indexes, verdict.answer, verdict.listed], [wanted[first - 1], "yes", ()])
            self.same([one for one, _ in ahead], wanted[:first - 1])
            self.same(len(asks.rows), first)

    def test_none_and_an_empty_menu(self):
        for longest in (0, 1, 5):
            for menu in ((), []):
                asks = Asked()
                indexes, verdict, ahead = least_row(menu, asks, longest)
                self.same([indexes, verdict, [one for one, _ in ahead], asks.rows], [None, None, [()], [Row()]])
                indexes, verdict, ahead = least_row(menu, Asked((1,)), longest)
                self.same([indexes, verdict.answer, ahead], [(), "yes", []])
        indexes, verdict, ahead = least_row(MENU, Asked(), 0)
        self.same([indexes, verdict, len(ahead)], [None, None, 1])
        indexes, verdict, ahead = least_row(longest=0, asks=Asked((1,)), menu=MENU)
        self.same([indexes, verdict.answer, ahead], [(), "yes", []])

    def test_the_longest_rows(self):
        began = time.monotonic()
        asks = Asked()
        self.same(len(least_row(MENU, asks, 5)[2]), sum(6 ** k for k in range(6)))
        self.same([asks.rows[-1], len(asks.rows[-1])], [Row(*[MENU[5]] * 5), 5])
        self.assertLess(time.monotonic() - began, 20)

    def test_an_error_goes_on(self):
        for at in (1, 2, 5, 13):
            asks = Asked((20,), at)
            self.fails(NoEntry, ("here",), least_row, MENU[:3], asks, 3)
            self.same(len(asks.rows), at)
        self.fails(TooMany, (10,), least_row, MENU, lambda row: leads_back(SHUT * 9, row, WALK, OWN), 1)

        def raises(row):
            raise KeyError(5)
        with self.assertRaises(KeyError):
            least_row(MENU, raises, 1)

    def test_the_menu_stays(self):
        menu = list(MENU)
        _, _, ahead = least_row(menu, Asked(), 1)
        ahead.clear()
        self.same([menu == list(MENU), described([str(one.change) for one in menu])],
                  [True, described([str(one.change) for one in MENU])])

    def test_with_verdicts_on_trees(self):
        menu = (Command(ANN, Change.read("u+r")), Command(ANN, Change.read("u+x"), "last"))
        indexes, verdict, ahead = least_row(menu, lambda row: leads_back(SHUT, row, WALK, OWN), 2)
        self.same([indexes, verdict.answer, [(told, one.answer) for told, one in ahead]], [(1,), "yes", [((), "no"), ((0,), "no")]])
        tree = ahead[1][1].as_tree()
        path = tree.rows()[-1][0]
        before = word_of(Row(WALK), tree, path)
        (SHUT + menu[0])(tree)
        self.same([before, stand_of(Row(WALK), tree, path)], [(0,), (-1,)])


if __name__ == "__main__":
    unittest.main()
